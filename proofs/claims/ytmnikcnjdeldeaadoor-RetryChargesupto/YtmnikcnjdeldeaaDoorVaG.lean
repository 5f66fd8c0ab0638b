/- Several texts in one. -/
import Derived.Test.YtmnikcnjdeldeaaDoorCmG
/- The values of lists and rows of digits: no program in it. -/
namespace Go.Proofs.YtmnikcnjdeldeaaDoor.rd
open Go.RowKit

/-- The number that digits stand for, the least first. -/
def valL : List Int → Int
  | [] => 0
  | z :: r => z + 10 * valL r
theorem valL_append (a b : List Int) : valL (a ++ b) = valL a + 10 ^ a.length * valL b := by
  induction a with
  | nil => simp [valL]
  | cons z r ih => simp only [List.cons_append, valL, List.length_cons]; rw [ih]; grind
theorem valL_zeros (k : Nat) : valL (List.replicate k 0) = 0 := by
  induction k with
  | zero => rfl
  | succ k ih => rw [List.replicate_succ]; simp [valL, ih]
theorem Dig10.tail {z : Int} {r : List Int} (h : Dig10 (z :: r)) : (0 ≤ z ∧ z ≤ 9) ∧ Dig10 r := ⟨h z (by simp), fun y hy => h y (by simp [hy])⟩
theorem Dig10.app {a b : List Int} (ha : Dig10 a) (hb : Dig10 b) : Dig10 (a ++ b) := by
  intro z hz
  rcases List.mem_append.1 hz with h | h
  · exact ha z h
  · exact hb z h
theorem Dig10.zeros (k : Nat) : Dig10 (List.replicate k 0) := by
  intro z hz
  rw [List.mem_replicate] at hz
  omega
theorem Dig10.cut {a : List Int} (ha : Dig10 a) : Dig10 (cutN a) := by
  intro z hz
  obtain ⟨k, hk⟩ := cutN_take a
  rw [hk] at hz
  exact ha z (List.mem_of_mem_take hz)
theorem valL_nonneg {l : List Int} (h : Dig10 l) : 0 ≤ valL l := by
  induction l with
  | nil => simp [valL]
  | cons z r ih => have := ih h.tail.2; have := h.tail.1; simp only [valL]; omega
theorem valL_lt {l : List Int} (h : Dig10 l) : valL l < 10 ^ l.length := by
  induction l with
  | nil => simp [valL]
  | cons z r ih =>
    have h1 := ih h.tail.2
    have h2 := h.tail.1
    simp only [valL, List.length_cons, Int.pow_succ]
    omega
theorem cutN_cons (z : Int) (r : List Int) : cutN (z :: r) = if cutN r = [] ∧ z = 0 then [] else z :: cutN r := by
  unfold cutN
  rw [List.reverse_cons, List.dropWhile_append]
  cases h : r.reverse.dropWhile (· == 0) with
  | nil =>
    by_cases hz : z = 0
    · simp [hz]
    · simp [hz]
  | cons a t => simp
theorem valL_cutN (l : List Int) : valL (cutN l) = valL l := by
  induction l with
  | nil => rfl
  | cons z r ih =>
    rw [cutN_cons]
    by_cases h : cutN r = [] ∧ z = 0
    · rw [if_pos h, h.2]
      rw [h.1] at ih
      simp only [valL] at ih ⊢
      omega
    · rw [if_neg h]; simp only [valL]; rw [ih]
theorem cutN_none {l : List Int} (h : Dig10 l) (hv : valL l = 0) : cutN l = [] := by
  induction l with
  | nil => rfl
  | cons z r ih =>
    have h1 := h.tail.1
    have h2 := valL_nonneg h.tail.2
    simp only [valL] at hv
    rw [cutN_cons, if_pos ⟨ih h.tail.2 (by omega), by omega⟩]
theorem cutN_val {a b : List Int} (ha : Dig10 a) (hb : Dig10 b) (h : valL a = valL b) : cutN a = cutN b := by
  induction a generalizing b with
  | nil => rw [cutN_none hb (by rw [← h]; rfl)]; rfl
  | cons z r ih =>
    cases b with
    | nil => rw [cutN_none ha h]; rfl
    | cons y s =>
      have h1 := ha.tail.1
      have h2 := hb.tail.1
      simp only [valL] at h
      have hz : z = y := by omega
      have hr := ih ha.tail.2 hb.tail.2 (by omega)
      rw [cutN_cons, cutN_cons, hr, hz]
theorem told_val {a b : List Int} (n : Bool) (e : Int) (ha : Dig10 a) (hb : Dig10 b) (h : valL a = valL b) : told n a e = told n b e := by
  unfold told; rw [cutN_val ha hb h]
theorem told_nought {a : List Int} (n : Bool) (e : Int) (ha : Dig10 a) (h : valL a = 0) : told n a e = (zed, true) := by
  unfold told; rw [if_pos (cutN_none ha h)]
theorem told_shift1 (n : Bool) (zs : List Int) (e : Int) : told n (0 :: zs) (e - 1) = told n zs e := by
  by_cases h : cutN zs = []
  · have hc : cutN (0 :: zs) = [] := by rw [cutN_cons, if_pos ⟨h, rfl⟩]
    unfold told
    rw [if_pos hc, if_pos h]
  · have hc : cutN (0 :: zs) = 0 :: cutN zs := by rw [cutN_cons, if_neg (fun q => h q.1)]
    unfold told
    rw [hc, if_neg (show ¬ (0 :: cutN zs = []) by simp), if_neg h]
    have hl : lowN (0 :: cutN zs) = lowN (cutN zs) + 1 := by simp [lowN]
    have ht : tb (0 :: cutN zs) (lowN (cutN zs) + 1) = tb (cutN zs) (lowN (cutN zs)) := by unfold tb; simp
    rw [hl, ht]
    generalize lowN (cutN zs) = m
    by_cases hc : e < -9999 - (m : Int) ∨ 9999 - (m : Int) < e
    · rw [if_pos (by omega), if_pos hc]
    · rw [if_neg (by omega), if_neg hc]
      have : e - 1 + ((m + 1 : Nat) : Int) = e + m := by omega
      rw [this]
theorem told_shift (n : Bool) (k : Nat) (zs : List Int) (e : Int) : told n (List.replicate k 0 ++ zs) (e - k) = told n zs e := by
  induction k generalizing e with
  | zero => simp
  | succ k ih =>
    rw [List.replicate_succ, List.cons_append]
    have : e - ((k + 1 : Nat) : Int) = (e - k) - 1 := by omega
    rw [this, told_shift1, ih]

/-- The digits of a number, the least first. -/
def dgF : Nat → Nat → List Int
  | 0, _ => []
  | f + 1, n => if n = 0 then [] else ((n % 10 : Nat) : Int) :: dgF f (n / 10)
def dgN (n : Nat) : List Int := dgF n n
theorem dgF_dig (f n : Nat) : Dig10 (dgF f n) := by
  induction f generalizing n with
  | zero => intro z hz; simp [dgF] at hz
  | succ f ih =>
    intro z hz
    simp only [dgF] at hz
    split at hz
    · simp at hz
    · rcases List.mem_cons.1 hz with h | h
      · omega
      · exact ih _ z h
theorem dgF_val (f n : Nat) (h : n < 10 ^ f) : valL (dgF f n) = n := by
  induction f generalizing n with
  | zero => simp at h; subst h; rfl
  | succ f ih =>
    simp only [dgF]
    split
    · simp [valL]; omega
    · simp only [valL]
      rw [ih (n / 10) (by rw [Nat.pow_succ] at h; omega)]
      omega
theorem dgN_dig (n : Nat) : Dig10 (dgN n) := dgF_dig n n
theorem dgN_val (n : Nat) : valL (dgN n) = n := dgF_val n n (Nat.lt_pow_self (by omega))

/-- The one form of a number V times ten to the e. -/
def tellV (neg : Bool) (v : Int) (e : Int) : Dn × Bool := told neg (dgN v.toNat) e
theorem told_tellV {zs : List Int} (n : Bool) (e : Int) (h : Dig10 zs) : told n zs e = tellV n (valL zs) e := by
  unfold tellV
  apply told_val n e h (dgN_dig _)
  rw [dgN_val]
  have := valL_nonneg h
  omega
theorem tellV_nought (n : Bool) (e : Int) : tellV n 0 e = (zed, true) := told_nought n e (dgN_dig _) (dgN_val _)
theorem tellV_shift (n : Bool) (v : Int) (h : 0 ≤ v) (k : Nat) (e : Int) : tellV n (v * 10 ^ k) (e - k) = tellV n v e := by
  unfold tellV
  rw [← told_shift n k (dgN v.toNat) e]
  apply told_val n _ (dgN_dig _) ((Dig10.zeros k).app (dgN_dig _))
  rw [valL_append, valL_zeros, dgN_val, dgN_val, List.length_replicate]
  have h1 : 0 ≤ v * 10 ^ k := Int.mul_nonneg h (Int.pow_nonneg (by omega))
  have h2 : ((v * 10 ^ k).toNat : Int) = v * 10 ^ k := by omega
  have h3 : (v.toNat : Int) = v := by omega
  rw [h2, h3]
  grind

/-- The number that a row of digits stands for, the greatest first. -/
def valM (l : List UInt8) : Int := valL (l.map fz).reverse
theorem valM_append (a b : List UInt8) : valM (a ++ b) = valM a * 10 ^ b.length + valM b := by
  unfold valM
  rw [List.map_append, List.reverse_append, valL_append, List.length_reverse, List.length_map]
  grind
theorem valM_nil : valM [] = 0 := rfl
theorem valM_one (c : UInt8) : valM [c] = fz c := by simp [valM, valL]
theorem valM_cons (c : UInt8) (r : List UInt8) : valM (c :: r) = fz c * 10 ^ r.length + valM r := by
  have := valM_append [c] r
  rw [valM_one] at this
  exact this
theorem fz_bd {c : UInt8} (h : nu.dig c = true) : 0 ≤ fz c ∧ fz c ≤ 9 := by
  have hc : 48 ≤ c.toNat ∧ c.toNat ≤ 57 := by simpa [nu.dig] using h
  unfold fz; omega
theorem row_dig10 {l : List UInt8} (h : ∀ c ∈ l, nu.dig c = true) : Dig10 (l.map fz).reverse := by
  intro z hz
  rw [List.mem_reverse, List.mem_map] at hz
  obtain ⟨c, hc, rfl⟩ := hz
  exact fz_bd (h c hc)
theorem valM_nonneg {l : List UInt8} (h : ∀ c ∈ l, nu.dig c = true) : 0 ≤ valM l := valL_nonneg (row_dig10 h)
theorem valM_lt {l : List UInt8} (h : ∀ c ∈ l, nu.dig c = true) : valM l < 10 ^ l.length := by
  have := valL_lt (row_dig10 h)
  rw [List.length_reverse, List.length_map] at this
  exact this
/-- The value of a text of digits. -/
def valB (s : ByteArray) : Int := valM s.data.toList
theorem len_list (s : ByteArray) : s.data.toList.length = s.size := by rw [Array.length_toList]; rfl
theorem valB_nonneg {s : ByteArray} (h : AllDig s) : 0 ≤ valB s := valM_nonneg h
theorem valB_lt {s : ByteArray} (h : AllDig s) : valB s < 10 ^ s.size := by
  have := valM_lt (l := s.data.toList) h
  rw [len_list] at this
  exact this

theorem form_val (n : Bool) (s : ByteArray) (e : Int) (h : AllDig s) : oneForm n s e = tellV n (valB s) e := by
  have h1 := told_eq n s.data.toList e h
  rw [Array.toArray_toList] at h1
  rw [← h1]
  have e1 : (s.data.toList.reverse.map fz) = (s.data.toList.map fz).reverse := List.map_reverse
  rw [e1, told_tellV n e (row_dig10 h).cut, valL_cutN]
  rfl

theorem zeros_list (c : Nat) : (zeros c).data.toList = List.replicate c 48 := by
  have h : (zeros c).data.toList = Lib.repeatL [48] c := by simp [zeros]
  rw [h]
  induction c with
  | zero => rfl
  | succ c ih => simp only [Lib.repeatL]; rw [ih (by simp [zeros]), List.replicate_succ]; rfl
theorem valM_zeros (c : Nat) : valM (List.replicate c 48) = 0 := by
  unfold valM
  rw [List.map_replicate, List.reverse_replicate]
  exact valL_zeros c
theorem valB_app (a b : ByteArray) : valB (a ++ b) = valB a * 10 ^ b.size + valB b := by
  unfold valB
  rw [ByteArray.data_append, Array.toList_append, valM_append, len_list]
theorem spread_val (g : ByteArray) (a b : Nat) : valB (spreadB g a b) = valB g * 10 ^ b := by
  have hz : ∀ c, valB (zeros c) = 0 := fun c => by unfold valB; rw [zeros_list, valM_zeros]
  unfold spreadB
  rw [valB_app, valB_app, hz, hz, zeros_size]
  grind

theorem fz_u8 (n : Nat) (h : n ≤ 9) : fz (48 + n).toUInt8 = n := by
  have := u8_of (48 + n) (by omega)
  unfold fz
  omega
theorem dig_u8 (n : Nat) (h : n ≤ 9) : nu.dig (48 + n).toUInt8 = true := by
  have := u8_of (48 + n) (by omega)
  have h2 : (48 + n).toUInt8.toNat = 48 + n := by omega
  simp only [nu.dig]
  rw [h2]
  simp; omega

theorem sumL_val (x y : List UInt8) (hl : x.length = y.length) (hx : ∀ c ∈ x, nu.dig c = true) (hy : ∀ c ∈ y, nu.dig c = true) :
    valM (sumL x y).1 + (sumL x y).2 * 10 ^ x.length = valM x + valM y ∧ ∀ c ∈ (sumL x y).1, nu.dig c = true := by
  induction x generalizing y with
  | nil => cases y with
    | nil => simp [sumL, valM_nil]
    | cons b ys => simp at hl
  | cons a xs ih =>
    cases y with
    | nil => simp at hl
    | cons b ys =>
      have hl' : xs.length = ys.length := by simpa using hl
      obtain ⟨h1, h2⟩ := ih ys hl' (fun c hc => hx c (by simp [hc])) (fun c hc => hy c (by simp [hc]))
      have ha : 48 ≤ a.toNat ∧ a.toNat ≤ 57 := by simpa [nu.dig] using hx a (by simp)
      have hb : 48 ≤ b.toNat ∧ b.toNat ≤ 57 := by simpa [nu.dig] using hy b (by simp)
      have hlen := sumL_len xs ys hl'
      simp only [sumL]
      refine ⟨?_, ?_⟩
      · rw [valM_cons, valM_cons, valM_cons, fz_u8 _ (by omega), hlen, ← hl']
        have ea : (fz a : Int) = ((a.toNat - 48 : Nat) : Int) := by unfold fz; omega
        have eb : (fz b : Int) = ((b.toNat - 48 : Nat) : Int) := by unfold fz; omega
        rw [ea, eb]
        generalize a.toNat - 48 = p at *
        generalize b.toNat - 48 = q at *
        generalize (sumL xs ys).2 = c at *
        have hdm : (((p + q + c) % 10 : Nat) : Int) + 10 * (((p + q + c) / 10 : Nat) : Int) = (p : Int) + q + c := by omega
        generalize (((p + q + c) % 10 : Nat) : Int) = r at *
        generalize (((p + q + c) / 10 : Nat) : Int) = d at *
        simp only [List.length_cons]
        grind
      · intro c hc
        rcases List.mem_cons.1 hc with h | h
        · rw [h]; exact dig_u8 _ (by omega)
        · exact h2 c h
theorem sumD_val (x y : ByteArray) (hl : x.size = y.size) (hx : AllDig x) (hy : AllDig y) : valB (sumD x y) = valB x + valB y ∧ AllDig (sumD x y) := by
  have hl' : x.data.toList.length = y.data.toList.length := by rw [len_list, len_list]; exact hl
  obtain ⟨h1, h2⟩ := sumL_val _ _ hl' hx hy
  have hc := sumL_carry _ _ hx hy
  have hlen := sumL_len _ _ hl'
  have e : (sumD x y).data.toList = (48 + (sumL x.data.toList y.data.toList).2).toUInt8 :: (sumL x.data.toList y.data.toList).1 := by unfold sumD; simp
  refine ⟨?_, ?_⟩
  · unfold valB
    rw [e, valM_cons, fz_u8 _ (by omega), hlen, ← h1]
    grind
  · unfold AllDig
    rw [e]
    intro c hc'
    rcases List.mem_cons.1 hc' with h | h
    · rw [h]; exact dig_u8 _ (by omega)
    · exact h2 c h

/-- A number in its one form, or nearly: its size and signed size, in units of ten to the -9999. -/
def sR (n : Dn) : Int := (if n.neg then -1 else 1) * (valB n.dg * 10 ^ (n.ex + 9999).toNat)
/-- The sum in its one form. -/
def addV (p q : Dn) : Dn × Bool := tellV (decide (sR p + sR q < 0)) ((sR p + sR q).natAbs : Int) (-9999)
def mulV (p q : Dn) : Dn × Bool := tellV (p.neg != q.neg) (valB p.dg * valB q.dg) (p.ex + q.ex)

theorem tellV_at (n : Bool) (v : Int) (h : 0 ≤ v) (e : Int) (he : -9999 ≤ e) : tellV n v e = tellV n (v * 10 ^ (e + 9999).toNat) (-9999) := by
  have := tellV_shift n v h (e + 9999).toNat e
  rw [← this]
  congr 1
  omega
theorem addV_of (p q : Dn) (n : Bool) (v : Int) (h : 0 ≤ v) (e : Int) (he : -9999 ≤ e) (hv : v * 10 ^ (e + 9999).toNat = ((sR p + sR q).natAbs : Int)) (hn : sR p + sR q ≠ 0 → n = decide (sR p + sR q < 0)) :
    tellV n v e = addV p q := by
  rw [tellV_at n v h e he, hv]
  unfold addV
  by_cases hz : sR p + sR q = 0
  · rw [hz]; exact (tellV_nought _ _).trans (tellV_nought _ _).symm
  · rw [hn hz]
theorem addV_comm (p q : Dn) : addV p q = addV q p := by unfold addV; rw [Int.add_comm]
end Go.Proofs.YtmnikcnjdeldeaaDoor.rd

/- difference's contract: two rows of digits of one width, the lesser taken away from the greater. -/
namespace Go.Proofs.YtmnikcnjdeldeaaDoor.rd
open Go.RowKit

/-- A new row of so many bytes. -/
theorem make_row (n : Nat) (h : n ≤ 140737488351232) (u : World) : (Instr.makeSlice 86 (.int .i64 (n : Int)) (.int .i64 (n : Int))).run Tryd.prog u = .ok (.slice (some ⟨u.heap.size, 0, none⟩) n n) (u.alloc (.cells (row n []) 5)) := by
  obtain ⟨i0, hi, hz0, hz1, hz2⟩ := info_parts info5
  have h := run_make (P := Tryd.prog) u 86 5 i0 (.int .u8 0) Tryd.underlying86 hi hz0 .i64 .i64 (n : Int) (n : Int) (by omega) (Int.le_refl _) (by rw [hz2]; omega) (by omega)
  have e : ((n : Nat) : Int).toNat = n := by omega
  rw [e] at h
  simpa [hz1, Value.cells, made_row] using h

end Go.Proofs.YtmnikcnjdeldeaaDoor.rd

/- column's and product's contracts. -/
namespace Go.Proofs.YtmnikcnjdeldeaaDoor.rd
open Go.RowKit

def gd (l : List UInt8) (j : Nat) : Int := match l[j]? with | some c => fz c | none => 0
/-- The sum of the products of the places that are k together. -/
def colC : List UInt8 → List UInt8 → Nat → Int
  | [], _, _ => 0
  | a :: x, y, 0 => fz a * gd y 0 + (0 : Int) * x.length
  | a :: x, y, k + 1 => fz a * gd y (k + 1) + colC x y k
def colP (x y : List UInt8) : Nat → Int
  | 0 => 0
  | j + 1 => colC x y j
def hor (f : Nat → Int) : Nat → Int
  | 0 => 0
  | k + 1 => 10 * hor f k + f k

theorem gd_at (l : List UInt8) (j : Nat) (h : j < l.length) : gd l j = fz l[j] := by unfold gd; rw [List.getElem?_eq_getElem h]
theorem gd_past (l : List UInt8) (j : Nat) (h : l.length ≤ j) : gd l j = 0 := by unfold gd; rw [List.getElem?_eq_none h]
theorem gd_bd {l : List UInt8} (hd : ∀ c ∈ l, nu.dig c = true) (j : Nat) : 0 ≤ gd l j ∧ gd l j ≤ 9 := by
  rcases Nat.lt_or_ge j l.length with h | h
  · rw [gd_at l j h]; exact fz_bd (hd _ (List.getElem_mem h))
  · rw [gd_past l j h]; omega
theorem mul_bd {a b : Int} (ha : 0 ≤ a ∧ a ≤ 9) (hb : 0 ≤ b ∧ b ≤ 9) : 0 ≤ a * b ∧ a * b ≤ 81 := by
  refine ⟨Int.mul_nonneg ha.1 hb.1, ?_⟩
  have := Int.mul_le_mul ha.2 hb.2 hb.1 (by omega)
  omega
theorem colC_bd {x y : List UInt8} (hx : ∀ c ∈ x, nu.dig c = true) (hy : ∀ c ∈ y, nu.dig c = true) (k : Nat) : 0 ≤ colC x y k ∧ colC x y k ≤ 81 * x.length := by
  induction x generalizing k with
  | nil => simp [colC]
  | cons a r ih =>
    have h1 := fz_bd (hx a (by simp))
    cases k with
    | zero =>
      have h2 := mul_bd h1 (gd_bd hy 0)
      simp only [colC, List.length_cons]; omega
    | succ k =>
      have h2 := mul_bd h1 (gd_bd hy (k + 1))
      have h3 := ih (fun c hc => hx c (by simp [hc])) k
      simp only [colC, List.length_cons]; omega

/-- What is left to add from place i on. -/
def colR (x y : List UInt8) (k i : Nat) : Int := if i ≤ k then colC (x.drop i) y (k - i) else 0
theorem colR_step (x y : List UInt8) (k i : Nat) (hi : i < x.length) (hk : i ≤ k) : colR x y k i = fz x[i] * gd y (k - i) + colR x y k (i + 1) := by
  unfold colR
  rw [if_pos hk, List.drop_eq_getElem_cons hi]
  rcases Nat.lt_or_ge i k with h | h
  · rw [if_pos (by omega)]
    obtain ⟨m, hm⟩ : ∃ m, k - i = m + 1 := ⟨k - i - 1, by omega⟩
    have hm2 : k - (i + 1) = m := by omega
    rw [hm, hm2]
    simp only [colC]
  · rw [if_neg (by omega)]
    have hm : k - i = 0 := by omega
    rw [hm]
    simp [colC]
theorem colR_end (x y : List UInt8) (k i : Nat) (h : x.length ≤ i ∨ k < i) : colR x y k i = 0 := by
  unfold colR
  split
  · rw [List.drop_eq_nil_of_le (by omega)]; rfl
  · rfl
theorem colR_skip (x y : List UInt8) (k i : Nat) (h : i + y.length ≤ k + 1) : colR x y k 0 = colR x y k i := by
  induction i with
  | zero => rfl
  | succ i ih =>
    rw [ih (by omega)]
    rcases Nat.lt_or_ge i x.length with h1 | h1
    · rw [colR_step x y k i h1 (by omega), gd_past y _ (by omega)]
      omega
    · rw [colR_end x y k i (.inl h1), colR_end x y k (i + 1) (.inl (by omega))]
theorem colR_zero (x y : List UInt8) (k : Nat) : colR x y k 0 = colC x y k := by unfold colR; rw [if_pos (by omega)]; rfl

theorem hor_congr {f g : Nat → Int} (h : ∀ k, f k = g k) (n : Nat) : hor f n = hor g n := by
  induction n with
  | zero => rfl
  | succ n ih => simp only [hor]; rw [ih, h]
theorem hor_lin (a : Int) (f g : Nat → Int) (n : Nat) : hor (fun k => a * f k + g k) n = a * hor f n + hor g n := by
  induction n with
  | zero => simp [hor]
  | succ n ih => simp only [hor]; rw [ih]; grind
theorem hor_gd (l : List UInt8) (k : Nat) (h : k ≤ l.length) : hor (gd l) k = valM (l.take k) := by
  induction k with
  | zero => rfl
  | succ k ih =>
    simp only [hor]
    rw [ih (by omega), List.take_succ_eq_append_getElem (by omega), valM_append, gd_at l k (by omega)]
    rw [valM_one]
    simp only [List.length_cons, List.length_nil]
    omega
theorem hor_pad (l : List UInt8) (m : Nat) : hor (gd l) (l.length + m) = valM l * 10 ^ m := by
  induction m with
  | zero => rw [Nat.add_zero, hor_gd l _ (Nat.le_refl _), List.take_length]; simp
  | succ m ih =>
    rw [← Nat.add_assoc]
    simp only [hor]
    rw [ih, gd_past l _ (by omega)]
    grind
theorem hor_zero (n : Nat) : hor (fun _ => 0) n = 0 := by
  induction n with
  | zero => rfl
  | succ n ih => simp [hor, ih]
def shiftF (f : Nat → Int) : Nat → Int
  | 0 => 0
  | k + 1 => f k
theorem hor_shift (f : Nat → Int) (n : Nat) : hor (shiftF f) (n + 1) = hor f n := by
  induction n with
  | zero => rfl
  | succ n ih => rw [hor, ih]; rfl
theorem colC_cons (a : UInt8) (x y : List UInt8) (k : Nat) : colC (a :: x) y k = fz a * gd y k + shiftF (colC x y) k := by
  cases k with
  | zero => simp [colC, shiftF]
  | succ k => rfl
theorem hor_col (x y : List UInt8) : hor (colC x y) (x.length + y.length - 1) = valM x * valM y := by
  induction x with
  | nil =>
    have : hor (colC [] y) (0 + y.length - 1) = hor (fun _ => 0) (0 + y.length - 1) := hor_congr (fun k => by simp [colC]) _
    simp only [List.length_nil]
    rw [this, hor_zero, valM_nil]
    omega
  | cons a r ih =>
    have h1 : (a :: r).length + y.length - 1 = y.length + r.length := by simp only [List.length_cons]; omega
    rw [h1, hor_congr (colC_cons a r y), hor_lin, hor_pad, valM_cons]
    rcases Nat.eq_zero_or_pos (y.length + r.length) with h | h
    · have hy : y = [] := List.eq_nil_of_length_eq_zero (by omega)
      rw [h]
      simp only [hor]
      subst hy
      rw [valM_nil]
      omega
    · obtain ⟨m, hm⟩ : ∃ m, y.length + r.length = m + 1 := ⟨y.length + r.length - 1, by omega⟩
      rw [hm, hor_shift]
      have : r.length + y.length - 1 = m := by omega
      rw [this] at ih
      rw [ih]
      grind
theorem colP_shift (x y : List UInt8) (k : Nat) : colP x y k = shiftF (colC x y) k := by cases k <;> rfl
theorem hor_colP (x y : List UInt8) : hor (colP x y) (x.length + y.length) = valM x * valM y := by
  rw [hor_congr (colP_shift x y)]
  rcases Nat.eq_zero_or_pos (x.length + y.length) with h | h
  · have hx : x = [] := List.eq_nil_of_length_eq_zero (by omega)
    rw [h]; subst hx
    simp [hor, valM_nil]
  · obtain ⟨m, hm⟩ : ∃ m, x.length + y.length = m + 1 := ⟨x.length + y.length - 1, by omega⟩
    rw [hm, hor_shift, ← hor_col]
    congr 1
    omega
theorem colP_bd {x y : List UInt8} (hx : ∀ c ∈ x, nu.dig c = true) (hy : ∀ c ∈ y, nu.dig c = true) (k : Nat) : 0 ≤ colP x y k ∧ colP x y k ≤ 81 * x.length := by
  cases k with
  | zero => simp only [colP]; omega
  | succ k => exact colC_bd hx hy k

theorem wrap_u64 (n : Int) (h0 : 0 ≤ n) (h1 : n ≤ 18446744073709551615) : IntKind.u64.wrap n = n := by
  simp [IntKind.wrap, IntKind.bits, IntKind.signed]
  omega
end Go.Proofs.YtmnikcnjdeldeaaDoor.rd

/- column's and product's walks. -/
namespace Go.Proofs.YtmnikcnjdeldeaaDoor.rd
open Go.RowKit

theorem column_none (x y : ByteArray) (w : World) (hs : x.size ≤ 1099511627776) (ht : y.size ≤ 1099511627776) :
    Calls Tryd.prog 53 #[.string x, .string y, .int .i64 (-1)] w fun e w' => e = .returned (.int .u64 0) ∧ Below w.heap.size w w' := by
  have hm : max (0 : Int) (-1 - (y.size : Int) + 1) = 0 := by omega
  go_enter Tryd.func53, Tryd.ntmps53
  go_wp2
  refine wp_loop_rounds 1 ?_
  rw [rounds_succ]
  by_cases h : (0 : Int) < (x.size : Int)
  · go_wp2
    go_ret
    exact ⟨rfl, Below.refl _ _⟩
  · go_wp2
    go_ret
    exact ⟨rfl, Below.refl _ _⟩

set_option maxRecDepth 100000 in
set_option maxHeartbeats 1600000 in
theorem column_some (x y : ByteArray) (k : Nat) (w : World) (hs : x.size ≤ 1099511627776) (ht : y.size ≤ 1099511627776) (hk : k ≤ 2199023255552) (hx : AllDig x) (hy : AllDig y) :
    Calls Tryd.prog 53 #[.string x, .string y, .int .i64 (k : Int)] w fun e w' => e = .returned (.int .u64 (colC x.data.toList y.data.toList k)) ∧ Below w.heap.size w w' := by
  have lx := len_list x
  have ly := len_list y
  have H0 := hide (colR_zero x.data.toList y.data.toList k)
  have HK := hide (fun i h => colR_skip x.data.toList y.data.toList k i h)
  generalize colC x.data.toList y.data.toList k = res at *
  have hmx : max (0 : Int) ((k : Int) - (y.size : Int) + 1) = ((k + 1 - y.size : Nat) : Int) := by omega
  have HX := hide hx
  have HY := hide hy
  clear hx hy
  go_enter Tryd.func53, Tryd.ntmps53
  go_wp2
  go_loopw [7, 8] (fun t i wr => ∃ (n : Nat) (v : Int), k + 1 - y.size ≤ n ∧ n ≤ k + 1 + x.size ∧ t = .int .u64 v ∧ i = .int .i64 (n : Int) ∧ 0 ≤ v ∧ v ≤ 81 * (n : Int) ∧ v + colR x.data.toList y.data.toList k n = res ∧ Below w.heap.size w wr)
    (fun _ i _ => (k + 2 + x.size) - (intOf i).toNat)
  case atStart =>
    refine ⟨k + 1 - y.size, 0, Nat.le_refl _, by omega, rfl, rfl, by omega, by omega, ?_, Below.refl _ _⟩
    rw [← unhide H0]
    rcases Nat.lt_or_ge k y.size with h | h
    · have : k + 1 - y.size = 0 := by omega
      rw [this]; omega
    · rw [unhide HK (k + 1 - y.size) (by omega)]; omega
  case round =>
    obtain ⟨n, v, hn0, hn1, rfl, rfl, hv0, hv1, hres, hbel⟩ := hrel
    clear hmx
    by_cases h1 : (n : Int) < (x.size : Int)
    · by_cases h2 : (n : Int) ≤ (k : Int)
      · have hn : n < x.size := by omega
        obtain ⟨m, hm⟩ : ∃ m, k = n + m := ⟨k - n, by omega⟩
        have hmy : m < y.size := by omega
        have em : IntKind.i64.wrap ((k : Int) - (n : Int)) = (m : Int) := by rw [wrap_in _ (by omega) (by omega)]; omega
        have HM := hide hm
        obtain ⟨a1, a2⟩ := AllDig.at (unhide HX) n hn
        obtain ⟨b1, b2⟩ := AllDig.at (unhide HY) m hmy
        have hstep := colR_step x.data.toList y.data.toList k n (by omega) (by omega)
        have hkm : k - n = m := by omega
        rw [hkm, gd_at y.data.toList m (by omega)] at hstep
        have ex : x.data.toList[n] = x[n] := rfl
        have ey : y.data.toList[m] = y[m] := rfl
        rw [ex, ey] at hstep
        have ha1 : (48 : Int) ≤ (x[n].toNat : Int) := by omega
        have ha2 : (x[n].toNat : Int) ≤ 57 := by omega
        have hb1 : (48 : Int) ≤ (y[m].toNat : Int) := by omega
        have hb2 : (y[m].toNat : Int) ≤ 57 := by omega
        have hpq := mul_bd (a := (x[n].toNat : Int) - 48) (b := (y[m].toNat : Int) - 48) (by omega) (by omega)
        have hw1 : IntKind.u64.wrap (((x[n].toNat : Int) - 48) * ((y[m].toNat : Int) - 48)) = ((x[n].toNat : Int) - 48) * ((y[m].toNat : Int) - 48) := wrap_u64 _ hpq.1 (by omega)
        have hw2 : IntKind.u64.wrap (v + ((x[n].toNat : Int) - 48) * ((y[m].toNat : Int) - 48)) = v + ((x[n].toNat : Int) - 48) * ((y[m].toNat : Int) - 48) := wrap_u64 _ (by omega) (by omega)
        have HPQ := hide hpq
        have HS := hide hstep
        have HR := hide hres
        clear hpq hstep hres a1 a2 b1 b2 hkm hm
        go_wp2
        go_quiet (fail)
        go_wp2
        go_roundw
        case rel =>
          refine ⟨n + 1, _, by omega, by omega, rfl, by go_num, ?_, ?_, ?_, hbel.trans ((Upd.drewN w.heap.size wr _).below (Nat.le_refl _))⟩
          · have := unhide HPQ; omega
          · have := unhide HPQ; omega
          · have h3 := unhide HS
            have h4 := unhide HR
            unfold fz at h3
            omega
        case measure => simp [intOf]; omega
      · have hr : res = v := by rw [← hres, colR_end _ _ _ _ (.inr (by omega))]; omega
        subst hr
        go_wp2
        go_ret
        exact ⟨rfl, hbel⟩
    · have hr : res = v := by rw [← hres, colR_end _ _ _ _ (.inl (by omega))]; omega
      subst hr
      go_wp2
      go_ret
      exact ⟨rfl, hbel⟩

theorem column_any (x y : ByteArray) (j : Nat) (a : Int) (ha : a = (j : Int) - 1) (w : World) (hs : x.size ≤ 1099511627776) (ht : y.size ≤ 1099511627776) (hk : j ≤ 2199023255552) (hx : AllDig x) (hy : AllDig y) :
    Calls Tryd.prog 53 #[.string x, .string y, .int .i64 a] w fun e w' => e = .returned (.int .u64 (colP x.data.toList y.data.toList j)) ∧ Below w.heap.size w w' := by
  subst ha
  cases j with
  | zero => exact column_none x y w hs ht
  | succ k =>
    rw [show ((k + 1 : Nat) : Int) - 1 = (k : Int) by omega]
    exact column_some x y k w hs ht (by omega) hx hy

set_option maxRecDepth 100000 in
set_option maxHeartbeats 1600000 in
theorem product_any (x y : ByteArray) (w : World) (hs : x.size ≤ 1099511627776) (ht : y.size ≤ 1099511627776) (hx : AllDig x) (hy : AllDig y) :
    Calls Tryd.prog 45 #[.string x, .string y] w fun e w' => ∃ s, e = .returned (.string s) ∧ s.size = x.size + y.size ∧ AllDig s ∧ valB s = valB x * valB y ∧ Below w.heap.size w w' := by
  have hmk := make_row (x.size + y.size) (by omega)
  have lx := len_list x
  have ly := len_list y
  have HH := hide (hor_colP x.data.toList y.data.toList)
  have HB := hide (fun k => colP_bd hx hy k)
  have HC := hide (fun j a ha w hk => column_any x y j a ha w hs ht hk hx hy)
  have HX := hide (valB_lt hx)
  have HY := hide (valB_lt hy)
  have HX0 := hide (valB_nonneg hx)
  have HY0 := hide (valB_nonneg hy)
  clear hx hy
  rw [lx] at HB
  rw [lx, ly] at HH
  have HV : Hid (valB x = valM x.data.toList ∧ valB y = valM y.data.toList) := ⟨rfl, rfl⟩
  generalize hf : colP x.data.toList y.data.toList = f at *
  clear hf
  have ec : ((x.size + y.size : Nat) : Int) = (x.size : Int) + (y.size : Int) := by omega
  rw [ec] at hmk
  go_enter Tryd.func45, Tryd.ntmps45
  go_wp2
  clear hmk
  go_loopw [6, 7] (fun c i wr => ∃ (k : Nat) (b : Int) (l : List UInt8), k ≤ x.size + y.size ∧ i = .int .i64 ((k : Int) - 1) ∧ c = .int .u64 b ∧ 0 ≤ b ∧ b ≤ 9 * (x.size : Int) ∧ l.length = x.size + y.size - k ∧ (∀ c ∈ l, nu.dig c = true) ∧
      valM l + (b + hor f k) * 10 ^ l.length = valB x * valB y ∧
      wr.heap[w.heap.size]? = some (.cells (row k l) 5 (0, 0)) ∧ Below w.heap.size w wr)
    (fun _ i _ => (intOf i + 1).toNat)
  case atStart =>
    refine ⟨x.size + y.size, 0, [], Nat.le_refl _, by go_num, rfl, by omega, by omega, by simp, by simp, ?_, ?_, (Below.refl _ _).alloc (Nat.le_refl _) _⟩
    · rw [unhide HH, (unhide HV).1, (unhide HV).2, valM_nil]; simp
    · show (w.heap.push _)[w.heap.size]? = _
      rw [Array.getElem?_push_size]
  case round =>
    obtain ⟨k, b, l, hk, rfl, rfl, hb0, hb1, hlen, hdl, hval, hrow, hbel⟩ := hrel
    cases k with
    | zero =>
      have hlx : l.length = x.size + y.size := by omega
      have HS : Hid (valM l = valB x * valB y) := by
        show valM l = _
        have h1 := valM_nonneg hdl
        have h2 := unhide HX
        have h3 := unhide HY
        have h4 := unhide HX0
        have h5 := unhide HY0
        have h6 : valB x * valB y < 10 ^ l.length := by
          rw [hlx, Int.pow_add]
          rcases Int.lt_or_le 0 (valB y) with h | h
          · exact Int.lt_of_lt_of_le (Int.mul_lt_mul_of_pos_right h2 h) (Int.mul_le_mul_of_nonneg_left (by omega) (Int.pow_nonneg (by omega)))
          · have : valB y = 0 := by omega
            rw [this]
            have h7 : ∀ m : Nat, (0 : Int) < 10 ^ m := fun m => Int.pow_pos (by omega)
            have := Int.mul_pos (h7 x.size) (h7 y.size)
            omega
        simp only [hor] at hval
        have hb : b = 0 := by
          rcases Int.lt_or_le 0 b with h | h
          · exfalso
            have : 1 * 10 ^ l.length ≤ (b + 0) * 10 ^ l.length := Int.mul_le_mul_of_nonneg_right (by omega) (Int.pow_nonneg (by omega))
            omega
          · omega
        subst hb
        simp at hval
        exact hval
      have hcv := row_back (cap := x.size + y.size) hrow
      rw [hlx] at hcv
      have HD := hide hdl
      have HL := hide hlx
      clear hval hlen hdl hlx
      go_wp2
      go_ret
      refine ⟨⟨l.toArray⟩, rfl, ?_, ?_, ?_, hbel⟩
      · rw [← unhide HL]; exact List.size_toArray
      · exact unhide HD
      · exact unhide HS
    | succ j =>
      rw [show ((j + 1 : Nat) : Int) - 1 = (j : Int) by omega]
      have HF : Hid (hor f (j + 1) = 10 * hor f j + f j) := rfl
      obtain ⟨hf0, hf1⟩ := unhide HB j
      have CC := hide (fun w => unhide HC j ((j : Int) - 1) rfl w (by omega))
      generalize f j = q at *
      have HV2 := hide hval
      have HRow := hide hrow
      have HDL := hide hdl
      have HLen := hide hlen
      clear hval hrow hdl hlen
      have hw1 : IntKind.u64.wrap (b + q) = b + q := wrap_u64 _ (by omega) (by omega)
      have hq1 : (j : Int) < (x.size : Int) + (y.size : Int) := by omega
      go_wp2_with fail
      refine (unhide CC _).mono ?_
      rintro e w1 ⟨rfl, h1⟩
      have hrow1 : w1.heap[w.heap.size]? = some (.cells (row (j + 1) l) 5 (0, 0)) := (h1.block _ (blk_lt (unhide HRow))).trans (unhide HRow)
      have hbel1 : Below w.heap.size w w1 := hbel.trans (h1.mono hbel.size)
      have c0 : w1.cell? ⟨w.heap.size, j, none⟩ = some (.int .u8 0) := by rw [blk_cell hrow1, row_zero _ _ _ (by omega)]
      have f0 := blk_free hrow1 j
      have HRow1 := hide hrow1
      clear hrow1 h1 HRow
      go_wp2
      go_roundw
      case rel =>
        refine ⟨j, (b + q) / 10, (48 + ((b + q) % 10).toNat).toUInt8 :: l, by omega, by go_num, rfl, by omega, by omega, ?_, ?_, ?_, ?_, hbel1.setCell (Nat.le_refl _) _⟩
        · have := unhide HLen
          simp only [List.length_cons]; omega
        · intro c hc
          rcases List.mem_cons.1 hc with h | h
          · rw [h]; exact dig_u8 _ (by omega)
          · exact unhide HDL c h
        · rw [valM_cons, fz_u8 _ (by omega)]
          have h1 := unhide HV2
          rw [unhide HF] at h1
          have hdm : (((b + q) % 10).toNat : Int) + 10 * ((b + q) / 10) = b + q := by omega
          generalize (((b + q) % 10).toNat : Int) = r at *
          generalize (b + q) / 10 = d at *
          simp only [List.length_cons]
          rw [← h1]
          grind
        · have hset := blk_set (unhide HRow1) j (.int .u8 (48 + (b + q) % 10))
          rw [row_set j l (48 + ((b + q) % 10).toNat).toUInt8 _ (by
            have hu := u8_of (48 + ((b + q) % 10).toNat) (by omega)
            unfold vb; rw [hu]; congr 1; omega)] at hset
          exact hset
      case measure => simp [intOf]
end Go.Proofs.YtmnikcnjdeldeaaDoor.rd
