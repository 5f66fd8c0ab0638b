/- Several texts in one. -/
import Derived.Test.YtmnikcnjdeldeaaDoorSuG
import Derived.Laws.BytesArg
/- cut's contract. -/
namespace Go.Proofs.YtmnikcnjdeldeaaDoor.rd
open Go.RowKit

/-- Without noughts at the upper end (the list's end). -/
def cutN (l : List Int) : List Int := (l.reverse.dropWhile (· == 0)).reverse
theorem cutN_len (l : List Int) : (cutN l).length ≤ l.length := by
  unfold cutN
  rw [List.length_reverse]
  have := (List.dropWhile_suffix (l := l.reverse) (fun x : Int => x == 0)).length_le
  rw [List.length_reverse] at this
  exact this
theorem cutN_zero (l : List Int) (z : Int) (h : z = 0) : cutN (l ++ [z]) = cutN l := by
  unfold cutN; rw [List.reverse_append]; simp [h]
theorem cutN_other (l : List Int) (z : Int) (h : z ≠ 0) : cutN (l ++ [z]) = l ++ [z] := by
  unfold cutN; rw [List.reverse_append]; simp [h]
theorem take_getD (l : List Int) (k : Nat) (h : k < l.length) : l.take (k + 1) = l.take k ++ [l.getD k 0] := by
  rw [List.take_succ_eq_append_getElem h]; simp [h]
theorem cutN_take (l : List Int) : ∃ k, cutN l = l.take k := by
  unfold cutN
  have h := List.dropWhile_suffix (l := l.reverse) (fun x : Int => x == 0)
  have h2 := List.reverse_prefix.2 h
  rw [List.reverse_reverse] at h2
  exact ⟨_, List.prefix_iff_eq_take.1 h2⟩

end Go.Proofs.YtmnikcnjdeldeaaDoor.rd

/- The contract of the reference's digits. -/
namespace Go.Proofs.YtmnikcnjdeldeaaDoor.rd
open Go.RowKit

/-- A slice of ints, wherever it lies. -/
def Ints (w : World) (v : Value) (zs : List Int) : Prop :=
  (v = .slice none 0 0 ∧ zs = []) ∨ ∃ g cap, v = .slice (some ⟨g, 0, none⟩) zs.length cap ∧ zs.length ≤ cap ∧ cap ≤ 9223372036854775807 ∧ ∀ j, j < zs.length → w.cell? ⟨g, j, none⟩ = some (.int .i64 (zs.getD j 0))
theorem Ints.keep {w w' : World} {v : Value} {zs : List Int} (h : Ints w v zs) (hb : Below w.heap.size w w') : Ints w' v zs := by
  rcases h with h | ⟨g, cap, h1, h2, h3, h4⟩
  · exact .inl h
  · exact .inr ⟨g, cap, h1, h2, h3, fun j hj => keepC hb (h4 j hj)⟩

def iv (z : Int) : Value := .int .i64 z
theorem ints_of_own {w : World} {B : Nat} {v : Value} {zs : List Int} (h : w.ownsRow B 3 1 v zs.length (zs.map iv)) : Ints w v zs := by
  rcases h.2 with ⟨h1, h2⟩ | ⟨g, cap, cur, rfl, hb, hg, hnc, hcm, hcs, htake⟩
  · exact .inl ⟨h1, List.eq_nil_of_length_eq_zero h2⟩
  · refine .inr ⟨g, cap, rfl, hnc, hcm, fun j hj => ?_⟩
    have := h.cellAt j (by omega)
    rw [this]
    simp [hj, iv]

theorem own_ge {w : World} {B : Nat} {e : TypeId} {v : Value} {n : Nat} {xs : List Value} (h : w.ownsRow B e 1 v n xs) : ∀ k, v.ownBlock = some k → B ≤ k := by
  intro k hk
  rcases h.2 with ⟨rfl, _⟩ | ⟨g, cap, cur, rfl, hb, _⟩
  · simp [Value.ownBlock] at hk
  · simp [Value.ownBlock] at hk
    omega
theorem cutN_getD (l : List Int) (j : Nat) (h : j < (cutN l).length) : (cutN l).getD j 0 = l.getD j 0 := by
  obtain ⟨m, hm⟩ := cutN_take l
  rw [hm] at h ⊢
  have hj : j < m := by
    rw [List.length_take] at h
    omega
  simp [List.getD, hj]

/-- The digits of the bytes from place k on, the last one first. -/
def dl (s : ByteArray) (k : Nat) : List Int := ((s.data.toList.drop k).filter nu.dig).reverse.map (fun c : UInt8 => (c.toNat : Int) - 48)
theorem dl_end (s : ByteArray) : dl s s.size = [] := by unfold dl; rw [drop_end]; rfl
theorem dl_yes (s : ByteArray) (k : Nat) (h : k < s.size) (hd : nu.dig s[k] = true) : dl s k = dl s (k + 1) ++ [(s[k].toNat : Int) - 48] := by
  unfold dl; rw [drop_at s k h]; simp [hd]
theorem dl_no (s : ByteArray) (k : Nat) (h : k < s.size) (hd : nu.dig s[k] = false) : dl s k = dl s (k + 1) := by
  unfold dl; rw [drop_at s k h]; simp [hd]
theorem dl_len (s : ByteArray) (k : Nat) : (dl s k).length ≤ s.size - k := by
  unfold dl
  rw [List.length_map, List.length_reverse]
  have h1 := List.length_filter_le nu.dig (s.data.toList.drop k)
  have h2 : (s.data.toList.drop k).length = s.size - k := by rw [List.length_drop]; simp
  omega

theorem info3 : (Tryd.prog.info? 3).map (fun i => (i.zero, i.size, i.bytes)) = some (some (.int .i64 0), 1, 8) := by kernel_rfl

end Go.Proofs.YtmnikcnjdeldeaaDoor.rd

/- The contract of the reference's told. -/
namespace Go.Proofs.YtmnikcnjdeldeaaDoor.rd
open Go.RowKit

/-- How many noughts a list begins with. -/
def lowN : List Int → Nat
  | [] => 0
  | z :: r => if z = 0 then lowN r + 1 else 0
theorem lowN_eq (us : List Int) (k : Nat) (h1 : ∀ i, i < k → us.getD i 0 = 0) (h2 : us.getD k 0 ≠ 0) : lowN us = k := by
  induction us generalizing k with
  | nil => simp at h2
  | cons z r ih =>
    cases k with
    | zero =>
      have : z ≠ 0 := by simpa using h2
      simp [lowN, this]
    | succ j =>
      have hz : z = 0 := by simpa using h1 0 (by omega)
      have := ih j (fun i hi => by simpa using h1 (i + 1) (by omega)) (by simpa using h2)
      simp [lowN, hz, this]
theorem cutN_last (l : List Int) (h : cutN l ≠ []) : (cutN l).getD ((cutN l).length - 1) 0 ≠ 0 := by
  unfold cutN at h ⊢
  cases hx : l.reverse.dropWhile (· == 0) with
  | nil => rw [hx] at h; simp at h
  | cons z r =>
    have hz : ¬ (z == 0) = true := by
      have := List.head_dropWhile_not (fun x : Int => x == 0) (l := l.reverse) (by rw [hx]; simp)
      simp only [hx, List.head_cons] at this
      simpa using this
    simp
    simpa using hz

def toB (z : Int) : UInt8 := (48 + z).toNat.toUInt8
/-- The bytes that told gathers, from the upper end down to place k. -/
def tb (us : List Int) (k : Nat) : List UInt8 := ((us.drop k).reverse).map toB
def told (neg : Bool) (zs : List Int) (ex : Int) : Dn × Bool :=
  if cutN zs = [] then (zed, true)
  else if ex < -9999 - lowN (cutN zs) ∨ 9999 - lowN (cutN zs) < ex then (zed, false)
  else (⟨neg, ⟨(tb (cutN zs) (lowN (cutN zs))).toArray⟩, ex + lowN (cutN zs)⟩, true)

theorem conv_own {w : World} {B n : Nat} {v : Value} {l : List UInt8} (h : w.ownsRow B 5 1 v n (l.map vb)) (hn : l.length = n) :
    (convert 86 9 v).run Tryd.prog w = .ok (.string ⟨l.toArray⟩) w := by
  subst hn
  rcases h.2 with ⟨rfl, h0⟩ | ⟨g, cap, cur, rfl, hb, hg, hnc, hcm, hcs, htake⟩
  · obtain rfl := List.eq_nil_of_length_eq_zero h0
    exact run_convert_bytes_nil w 86 5 Tryd.underlying86 Tryd.underlying5 0 0 9 Tryd.underlying9
  · refine run_convert_bytes_back w 86 9 5 ⟨g, 0, none⟩ cap l Tryd.underlying86 Tryd.underlying5 Tryd.underlying9 (fun j hj => ?_)
    have := h.cellAt j (by omega)
    have e : (⟨g, 0, none⟩ : Addr).add j = ⟨g, j, none⟩ := by unfold Addr.add; split <;> simp_all
    rw [e, this]
    simp [hj, vb]

def Dig10 (zs : List Int) : Prop := ∀ z ∈ zs, 0 ≤ z ∧ z ≤ 9
theorem Dig10.at {zs : List Int} (h : Dig10 zs) (j : Nat) (hj : j < zs.length) : 0 ≤ zs.getD j 0 ∧ zs.getD j 0 ≤ 9 := by
  have : zs.getD j 0 = zs[j] := by simp [hj]
  rw [this]
  exact h _ (List.getElem_mem hj)

theorem tb_step (us : List Int) (j : Nat) (h : j < us.length) : tb us j = tb us (j + 1) ++ [toB (us.getD j 0)] := by
  unfold tb
  have e : us.drop j = us.getD j 0 :: us.drop (j + 1) := by rw [List.drop_eq_getElem_cons h]; simp [h]
  rw [e, List.reverse_cons, List.map_append]
  rfl
theorem tb_end (us : List Int) : tb us us.length = [] := by unfold tb; simp
theorem tb_len (us : List Int) (k : Nat) : (tb us k).length = us.length - k := by unfold tb; simp
theorem toB_nat (z : Int) (h0 : 0 ≤ z) (h1 : z ≤ 9) : ((toB z).toNat : Int) = 48 + z := by
  unfold toB
  rw [u8_of _ (by omega)]
  omega

end Go.Proofs.YtmnikcnjdeldeaaDoor.rd

/- The reference's told of the digits is the one form: no program in it. -/
namespace Go.Proofs.YtmnikcnjdeldeaaDoor.rd
open Go.RowKit

def fz (c : UInt8) : Int := (c.toNat : Int) - 48
theorem fz_zero (c : UInt8) : (fz c == 0) = (c == 48) := by
  unfold fz
  by_cases h : c = 48
  · subst h; rfl
  · have : c.toNat ≠ 48 := fun e => h (UInt8.toNat_inj.1 (by simpa using e))
    have h1 : (c == 48) = false := by simpa using h
    rw [h1]
    simp
    omega
theorem dropWhile_fz (l : List UInt8) : (l.map fz).dropWhile (· == 0) = (l.dropWhile (· == 48)).map fz := by
  induction l with
  | nil => rfl
  | cons a r ih =>
    rw [List.map_cons, List.dropWhile_cons, List.dropWhile_cons, fz_zero]
    split
    · exact ih
    · rfl
theorem cutN_fz (l : List UInt8) : cutN (l.reverse.map fz) = ((l.dropWhile (· == 48)).map fz).reverse := by
  unfold cutN
  rw [← List.map_reverse, List.reverse_reverse, dropWhile_fz]
theorem dropWhile_idem (l : List UInt8) : (l.dropWhile (· == 48)).dropWhile (· == 48) = l.dropWhile (· == 48) := by
  induction l with
  | nil => rfl
  | cons a r ih =>
    rw [List.dropWhile_cons]
    split
    · exact ih
    · rename_i h
      rw [List.dropWhile_cons, if_neg h]
theorem cutN_idem (l : List UInt8) : cutN (((l.dropWhile (· == 48)).map fz).reverse) = ((l.dropWhile (· == 48)).map fz).reverse := by
  rw [← List.map_reverse, cutN_fz, dropWhile_idem, List.map_reverse]
theorem lowN_fz (l : List UInt8) : lowN (l.map fz) = (l.takeWhile (· == 48)).length := by
  induction l with
  | nil => rfl
  | cons a r ih =>
    rw [List.map_cons, List.takeWhile_cons]
    simp only [lowN]
    have h := fz_zero a
    by_cases ha : a = 48
    · subst ha
      have : fz 48 = 0 := rfl
      simp [this, ih]
    · have h1 : (a == 48) = false := by simpa using ha
      have h2 : ¬ fz a = 0 := by rw [h1] at h; simpa using h
      simp [h1, h2]
theorem drop_take (l : List UInt8) (p : UInt8 → Bool) : l.drop (l.takeWhile p).length = l.dropWhile p := by
  induction l with
  | nil => rfl
  | cons a r ih =>
    rw [List.takeWhile_cons, List.dropWhile_cons]
    split
    · simpa using ih
    · rfl
theorem len_take_drop (l : List UInt8) (p : UInt8 → Bool) : (l.takeWhile p).length + (l.dropWhile p).length = l.length := by
  rw [← List.length_append, List.takeWhile_append_dropWhile]
theorem toB_fz (c : UInt8) (h : nu.dig c = true) : toB (fz c) = c := by
  have hc : 48 ≤ c.toNat ∧ c.toNat ≤ 57 := by simpa [nu.dig] using h
  unfold toB fz
  have : (48 + ((c.toNat : Int) - 48)).toNat = c.toNat := by omega
  rw [this]
  simp [Nat.toUInt8]
theorem map_toB (l : List UInt8) (h : ∀ c ∈ l, nu.dig c = true) : (l.map fz).map toB = l := by
  rw [List.map_map]
  have e : l.map (toB ∘ fz) = l.map id := List.map_congr_left (fun c hc => toB_fz c (h c hc))
  rw [e, List.map_id]

/-- What told gathers, in the one form's words. -/
theorem told_eq (neg : Bool) (l : List UInt8) (ex : Int) (hd : ∀ c ∈ l, nu.dig c = true) :
    told neg (cutN (l.reverse.map fz)) ex = oneForm neg ⟨l.toArray⟩ ex := by
  have e1 : trimL ⟨l.toArray⟩ = ⟨(l.dropWhile (· == 48)).toArray⟩ := rfl
  have hdt : ∀ c ∈ l.dropWhile (· == 48), nu.dig c = true := fun c hc => hd c (mem_dropWhile hc)
  unfold told oneForm
  rw [cutN_fz, cutN_idem, e1]
  have hdw := dropWhile_idem l
  generalize l.dropWhile (· == 48) = t at *
  have e2 : trimR ⟨t.toArray⟩ = ⟨((t.reverse.dropWhile (· == 48)).reverse).toArray⟩ := rfl
  have s1 : (⟨t.toArray⟩ : ByteArray).size = t.length := List.size_toArray
  have s2 : (trimR ⟨t.toArray⟩).size = (t.reverse.dropWhile (· == 48)).length := by rw [e2]; exact List.size_toArray.trans (List.length_reverse)
  have hl := len_take_drop t.reverse (· == 48)
  have hlow : lowN ((t.map fz).reverse) = (t.reverse.takeWhile (· == 48)).length := by rw [← List.map_reverse, lowN_fz]
  have htb : (tb ((t.map fz).reverse) (t.reverse.takeWhile (· == 48)).length) = (t.reverse.dropWhile (· == 48)).reverse := by
    unfold tb
    rw [← List.map_reverse, ← List.map_drop, drop_take, ← List.map_reverse]
    exact map_toB _ (fun c hc => hdt c (List.mem_reverse.1 (mem_dropWhile (List.mem_reverse.1 hc))))
  rw [s1, s2, hlow, htb]
  rw [List.length_reverse] at hl
  cases t with
  | nil => simp
  | cons a r =>
    have ha : ¬ (a == 48) = true := by
      intro h
      rw [List.dropWhile_cons, if_pos h] at hdw
      have := (List.dropWhile_suffix (l := r) (fun x : UInt8 => x == 48)).length_le
      rw [hdw] at this
      simp at this
      omega
    have hne : (((a :: r).reverse).dropWhile (· == 48)).length ≠ 0 := by
      intro h
      have h0 := List.eq_nil_of_length_eq_zero h
      have h1 := List.takeWhile_append_dropWhile (p := fun x : UInt8 => x == 48) (l := (a :: r).reverse)
      rw [h0, List.append_nil] at h1
      have h2 := List.all_eq_true.1 (List.all_takeWhile (p := fun x : UInt8 => x == 48) (l := (a :: r).reverse)) a (by rw [h1]; simp)
      exact ha h2
    have hne2 : ¬ ((List.map fz (a :: r)).reverse = []) := by simp
    rw [if_neg hne2, if_neg hne]
    have hc1 : (((a :: r).length : Int) - (((a :: r).reverse.dropWhile (· == 48)).length : Int)) = (((a :: r).reverse.takeWhile (· == 48)).length : Int) := by omega
    rw [hc1]
    generalize ((a :: r).reverse.takeWhile (· == 48)).length = m
    by_cases h1 : 9999 < ex
    · rw [if_pos (.inr (by omega)), if_pos h1]
    · rw [if_neg h1]
      by_cases h2 : ex < -9999 - (m : Int) ∨ 9999 - (m : Int) < ex
      · rw [if_pos h2, if_pos (by omega)]
      · rw [if_neg h2, if_neg (by omega)]
        rfl

theorem dl_fz (s : ByteArray) : dl s 0 = (s.data.toList.filter nu.dig).reverse.map fz := by
  unfold dl; rw [List.drop_zero]; rfl
theorem norm_eq (neg : Bool) (s : ByteArray) (ex : Int) : told neg (cutN (dl s 0)) ex = oneForm neg (digs s) ex := by
  rw [dl_fz]
  exact told_eq neg _ ex (dig_filter _)
theorem dl_dig10 (s : ByteArray) : Dig10 (cutN (dl s 0)) := by
  intro z hz
  have h1 : z ∈ dl s 0 := by
    obtain ⟨k, hk⟩ := cutN_take (dl s 0)
    rw [hk] at hz
    exact List.mem_of_mem_take hz
  rw [dl_fz] at h1
  obtain ⟨c, hc, rfl⟩ := List.mem_map.1 h1
  have := dig_filter _ c (List.mem_reverse.1 hc)
  have h2 : 48 ≤ c.toNat ∧ c.toNat ≤ 57 := by simpa [nu.dig] using this
  unfold fz
  omega
theorem dl_short (s : ByteArray) : (cutN (dl s 0)).length ≤ s.size := by
  have h1 := cutN_len (dl s 0)
  have h2 := dl_len s 0
  omega
end Go.Proofs.YtmnikcnjdeldeaaDoor.rd

/- The contract of the reference's Norm. -/
namespace Go.Proofs.YtmnikcnjdeldeaaDoor.rd
open Go.RowKit

end Go.Proofs.YtmnikcnjdeldeaaDoor.rd
