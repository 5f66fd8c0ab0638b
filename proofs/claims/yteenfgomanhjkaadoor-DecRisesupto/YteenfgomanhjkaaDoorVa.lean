/- The values of lists and rows of digits: no program in it. -/
import Derived.Test.YteenfgomanhjkaaDoorCm
namespace Go.Proofs.YteenfgomanhjkaaDoor.rd
open Go.RowKit

/-- The number that digits stand for, the least first. -/
def valL : List Int → Int
  | [] => 0
  | z :: r => z + 10 * valL r
theorem valL_append (a b : List Int) : valL (a ++ b) = valL a + 10 ^ a.length * valL b := by
  induction a with
  | nil => simp [valL]
  | cons z r ih => simp only [List.cons_append, valL, List.length_cons]; rw [ih]; grind
theorem valL_zeros (k : Nat) : valL (List.replicate k 0) = 0 := by
  induction k with
  | zero => rfl
  | succ k ih => rw [List.replicate_succ]; simp [valL, ih]
theorem Dig10.tail {z : Int} {r : List Int} (h : Dig10 (z :: r)) : (0 ≤ z ∧ z ≤ 9) ∧ Dig10 r := ⟨h z (by simp), fun y hy => h y (by simp [hy])⟩
theorem Dig10.app {a b : List Int} (ha : Dig10 a) (hb : Dig10 b) : Dig10 (a ++ b) := by
  intro z hz
  rcases List.mem_append.1 hz with h | h
  · exact ha z h
  · exact hb z h
theorem Dig10.zeros (k : Nat) : Dig10 (List.replicate k 0) := by
  intro z hz
  rw [List.mem_replicate] at hz
  omega
theorem Dig10.cut {a : List Int} (ha : Dig10 a) : Dig10 (cutN a) := by
  intro z hz
  obtain ⟨k, hk⟩ := cutN_take a
  rw [hk] at hz
  exact ha z (List.mem_of_mem_take hz)
theorem valL_nonneg {l : List Int} (h : Dig10 l) : 0 ≤ valL l := by
  induction l with
  | nil => simp [valL]
  | cons z r ih => have := ih h.tail.2; have := h.tail.1; simp only [valL]; omega
theorem valL_lt {l : List Int} (h : Dig10 l) : valL l < 10 ^ l.length := by
  induction l with
  | nil => simp [valL]
  | cons z r ih =>
    have h1 := ih h.tail.2
    have h2 := h.tail.1
    simp only [valL, List.length_cons, Int.pow_succ]
    omega
theorem cutN_cons (z : Int) (r : List Int) : cutN (z :: r) = if cutN r = [] ∧ z = 0 then [] else z :: cutN r := by
  unfold cutN
  rw [List.reverse_cons, List.dropWhile_append]
  cases h : r.reverse.dropWhile (· == 0) with
  | nil =>
    by_cases hz : z = 0
    · simp [hz]
    · simp [hz]
  | cons a t => simp
theorem valL_cutN (l : List Int) : valL (cutN l) = valL l := by
  induction l with
  | nil => rfl
  | cons z r ih =>
    rw [cutN_cons]
    by_cases h : cutN r = [] ∧ z = 0
    · rw [if_pos h, h.2]
      rw [h.1] at ih
      simp only [valL] at ih ⊢
      omega
    · rw [if_neg h]; simp only [valL]; rw [ih]
theorem cutN_none {l : List Int} (h : Dig10 l) (hv : valL l = 0) : cutN l = [] := by
  induction l with
  | nil => rfl
  | cons z r ih =>
    have h1 := h.tail.1
    have h2 := valL_nonneg h.tail.2
    simp only [valL] at hv
    rw [cutN_cons, if_pos ⟨ih h.tail.2 (by omega), by omega⟩]
theorem cutN_val {a b : List Int} (ha : Dig10 a) (hb : Dig10 b) (h : valL a = valL b) : cutN a = cutN b := by
  induction a generalizing b with
  | nil => rw [cutN_none hb (by rw [← h]; rfl)]; rfl
  | cons z r ih =>
    cases b with
    | nil => rw [cutN_none ha h]; rfl
    | cons y s =>
      have h1 := ha.tail.1
      have h2 := hb.tail.1
      simp only [valL] at h
      have hz : z = y := by omega
      have hr := ih ha.tail.2 hb.tail.2 (by omega)
      rw [cutN_cons, cutN_cons, hr, hz]
theorem told_val {a b : List Int} (n : Bool) (e : Int) (ha : Dig10 a) (hb : Dig10 b) (h : valL a = valL b) : told n a e = told n b e := by
  unfold told; rw [cutN_val ha hb h]
theorem told_nought {a : List Int} (n : Bool) (e : Int) (ha : Dig10 a) (h : valL a = 0) : told n a e = (zed, true) := by
  unfold told; rw [if_pos (cutN_none ha h)]
theorem told_shift1 (n : Bool) (zs : List Int) (e : Int) : told n (0 :: zs) (e - 1) = told n zs e := by
  by_cases h : cutN zs = []
  · have hc : cutN (0 :: zs) = [] := by rw [cutN_cons, if_pos ⟨h, rfl⟩]
    unfold told
    rw [if_pos hc, if_pos h]
  · have hc : cutN (0 :: zs) = 0 :: cutN zs := by rw [cutN_cons, if_neg (fun q => h q.1)]
    unfold told
    rw [hc, if_neg (show ¬ (0 :: cutN zs = []) by simp), if_neg h]
    have hl : lowN (0 :: cutN zs) = lowN (cutN zs) + 1 := by simp [lowN]
    have ht : tb (0 :: cutN zs) (lowN (cutN zs) + 1) = tb (cutN zs) (lowN (cutN zs)) := by unfold tb; simp
    rw [hl, ht]
    generalize lowN (cutN zs) = m
    by_cases hc : e < -9999 - (m : Int) ∨ 9999 - (m : Int) < e
    · rw [if_pos (by omega), if_pos hc]
    · rw [if_neg (by omega), if_neg hc]
      have : e - 1 + ((m + 1 : Nat) : Int) = e + m := by omega
      rw [this]
theorem told_shift (n : Bool) (k : Nat) (zs : List Int) (e : Int) : told n (List.replicate k 0 ++ zs) (e - k) = told n zs e := by
  induction k generalizing e with
  | zero => simp
  | succ k ih =>
    rw [List.replicate_succ, List.cons_append]
    have : e - ((k + 1 : Nat) : Int) = (e - k) - 1 := by omega
    rw [this, told_shift1, ih]

/-- The digits of a number, the least first. -/
def dgF : Nat → Nat → List Int
  | 0, _ => []
  | f + 1, n => if n = 0 then [] else ((n % 10 : Nat) : Int) :: dgF f (n / 10)
def dgN (n : Nat) : List Int := dgF n n
theorem dgF_dig (f n : Nat) : Dig10 (dgF f n) := by
  induction f generalizing n with
  | zero => intro z hz; simp [dgF] at hz
  | succ f ih =>
    intro z hz
    simp only [dgF] at hz
    split at hz
    · simp at hz
    · rcases List.mem_cons.1 hz with h | h
      · omega
      · exact ih _ z h
theorem dgF_val (f n : Nat) (h : n < 10 ^ f) : valL (dgF f n) = n := by
  induction f generalizing n with
  | zero => simp at h; subst h; rfl
  | succ f ih =>
    simp only [dgF]
    split
    · simp [valL]; omega
    · simp only [valL]
      rw [ih (n / 10) (by rw [Nat.pow_succ] at h; omega)]
      omega
theorem dgN_dig (n : Nat) : Dig10 (dgN n) := dgF_dig n n
theorem dgN_val (n : Nat) : valL (dgN n) = n := dgF_val n n (Nat.lt_pow_self (by omega))

/-- The one form of a number V times ten to the e. -/
def tellV (neg : Bool) (v : Int) (e : Int) : Dn × Bool := told neg (dgN v.toNat) e
theorem told_tellV {zs : List Int} (n : Bool) (e : Int) (h : Dig10 zs) : told n zs e = tellV n (valL zs) e := by
  unfold tellV
  apply told_val n e h (dgN_dig _)
  rw [dgN_val]
  have := valL_nonneg h
  omega
theorem tellV_nought (n : Bool) (e : Int) : tellV n 0 e = (zed, true) := told_nought n e (dgN_dig _) (dgN_val _)
theorem tellV_shift (n : Bool) (v : Int) (h : 0 ≤ v) (k : Nat) (e : Int) : tellV n (v * 10 ^ k) (e - k) = tellV n v e := by
  unfold tellV
  rw [← told_shift n k (dgN v.toNat) e]
  apply told_val n _ (dgN_dig _) ((Dig10.zeros k).app (dgN_dig _))
  rw [valL_append, valL_zeros, dgN_val, dgN_val, List.length_replicate]
  have h1 : 0 ≤ v * 10 ^ k := Int.mul_nonneg h (Int.pow_nonneg (by omega))
  have h2 : ((v * 10 ^ k).toNat : Int) = v * 10 ^ k := by omega
  have h3 : (v.toNat : Int) = v := by omega
  rw [h2, h3]
  grind

/-- The number that a row of digits stands for, the greatest first. -/
def valM (l : List UInt8) : Int := valL (l.map fz).reverse
theorem valM_append (a b : List UInt8) : valM (a ++ b) = valM a * 10 ^ b.length + valM b := by
  unfold valM
  rw [List.map_append, List.reverse_append, valL_append, List.length_reverse, List.length_map]
  grind
theorem valM_nil : valM [] = 0 := rfl
theorem valM_one (c : UInt8) : valM [c] = fz c := by simp [valM, valL]
theorem valM_cons (c : UInt8) (r : List UInt8) : valM (c :: r) = fz c * 10 ^ r.length + valM r := by
  have := valM_append [c] r
  rw [valM_one] at this
  exact this
theorem fz_bd {c : UInt8} (h : nu.dig c = true) : 0 ≤ fz c ∧ fz c ≤ 9 := by
  have hc : 48 ≤ c.toNat ∧ c.toNat ≤ 57 := by simpa [nu.dig] using h
  unfold fz; omega
theorem row_dig10 {l : List UInt8} (h : ∀ c ∈ l, nu.dig c = true) : Dig10 (l.map fz).reverse := by
  intro z hz
  rw [List.mem_reverse, List.mem_map] at hz
  obtain ⟨c, hc, rfl⟩ := hz
  exact fz_bd (h c hc)
theorem valM_nonneg {l : List UInt8} (h : ∀ c ∈ l, nu.dig c = true) : 0 ≤ valM l := valL_nonneg (row_dig10 h)
theorem valM_lt {l : List UInt8} (h : ∀ c ∈ l, nu.dig c = true) : valM l < 10 ^ l.length := by
  have := valL_lt (row_dig10 h)
  rw [List.length_reverse, List.length_map] at this
  exact this
/-- The value of a text of digits. -/
def valB (s : ByteArray) : Int := valM s.data.toList
theorem len_list (s : ByteArray) : s.data.toList.length = s.size := by rw [Array.length_toList]; rfl
theorem valB_nonneg {s : ByteArray} (h : AllDig s) : 0 ≤ valB s := valM_nonneg h
theorem valB_lt {s : ByteArray} (h : AllDig s) : valB s < 10 ^ s.size := by
  have := valM_lt (l := s.data.toList) h
  rw [len_list] at this
  exact this

theorem form_val (n : Bool) (s : ByteArray) (e : Int) (h : AllDig s) : oneForm n s e = tellV n (valB s) e := by
  have h1 := told_eq n s.data.toList e h
  rw [Array.toArray_toList] at h1
  rw [← h1]
  have e1 : (s.data.toList.reverse.map fz) = (s.data.toList.map fz).reverse := List.map_reverse
  rw [e1, told_tellV n e (row_dig10 h).cut, valL_cutN]
  rfl

theorem zeros_list (c : Nat) : (zeros c).data.toList = List.replicate c 48 := by
  have h : (zeros c).data.toList = Lib.repeatL [48] c := by simp [zeros]
  rw [h]
  induction c with
  | zero => rfl
  | succ c ih => simp only [Lib.repeatL]; rw [ih (by simp [zeros]), List.replicate_succ]; rfl
theorem valM_zeros (c : Nat) : valM (List.replicate c 48) = 0 := by
  unfold valM
  rw [List.map_replicate, List.reverse_replicate]
  exact valL_zeros c
theorem valB_app (a b : ByteArray) : valB (a ++ b) = valB a * 10 ^ b.size + valB b := by
  unfold valB
  rw [ByteArray.data_append, Array.toList_append, valM_append, len_list]
theorem spread_val (g : ByteArray) (a b : Nat) : valB (spreadB g a b) = valB g * 10 ^ b := by
  have hz : ∀ c, valB (zeros c) = 0 := fun c => by unfold valB; rw [zeros_list, valM_zeros]
  unfold spreadB
  rw [valB_app, valB_app, hz, hz, zeros_size]
  grind

theorem fz_u8 (n : Nat) (h : n ≤ 9) : fz (48 + n).toUInt8 = n := by
  have := u8_of (48 + n) (by omega)
  unfold fz
  omega
theorem dig_u8 (n : Nat) (h : n ≤ 9) : nu.dig (48 + n).toUInt8 = true := by
  have := u8_of (48 + n) (by omega)
  have h2 : (48 + n).toUInt8.toNat = 48 + n := by omega
  simp only [nu.dig]
  rw [h2]
  simp; omega

theorem sumL_val (x y : List UInt8) (hl : x.length = y.length) (hx : ∀ c ∈ x, nu.dig c = true) (hy : ∀ c ∈ y, nu.dig c = true) :
    valM (sumL x y).1 + (sumL x y).2 * 10 ^ x.length = valM x + valM y ∧ ∀ c ∈ (sumL x y).1, nu.dig c = true := by
  induction x generalizing y with
  | nil => cases y with
    | nil => simp [sumL, valM_nil]
    | cons b ys => simp at hl
  | cons a xs ih =>
    cases y with
    | nil => simp at hl
    | cons b ys =>
      have hl' : xs.length = ys.length := by simpa using hl
      obtain ⟨h1, h2⟩ := ih ys hl' (fun c hc => hx c (by simp [hc])) (fun c hc => hy c (by simp [hc]))
      have ha : 48 ≤ a.toNat ∧ a.toNat ≤ 57 := by simpa [nu.dig] using hx a (by simp)
      have hb : 48 ≤ b.toNat ∧ b.toNat ≤ 57 := by simpa [nu.dig] using hy b (by simp)
      have hlen := sumL_len xs ys hl'
      simp only [sumL]
      refine ⟨?_, ?_⟩
      · rw [valM_cons, valM_cons, valM_cons, fz_u8 _ (by omega), hlen, ← hl']
        have ea : (fz a : Int) = ((a.toNat - 48 : Nat) : Int) := by unfold fz; omega
        have eb : (fz b : Int) = ((b.toNat - 48 : Nat) : Int) := by unfold fz; omega
        rw [ea, eb]
        generalize a.toNat - 48 = p at *
        generalize b.toNat - 48 = q at *
        generalize (sumL xs ys).2 = c at *
        have hdm : (((p + q + c) % 10 : Nat) : Int) + 10 * (((p + q + c) / 10 : Nat) : Int) = (p : Int) + q + c := by omega
        generalize (((p + q + c) % 10 : Nat) : Int) = r at *
        generalize (((p + q + c) / 10 : Nat) : Int) = d at *
        simp only [List.length_cons]
        grind
      · intro c hc
        rcases List.mem_cons.1 hc with h | h
        · rw [h]; exact dig_u8 _ (by omega)
        · exact h2 c h
theorem sumD_val (x y : ByteArray) (hl : x.size = y.size) (hx : AllDig x) (hy : AllDig y) : valB (sumD x y) = valB x + valB y ∧ AllDig (sumD x y) := by
  have hl' : x.data.toList.length = y.data.toList.length := by rw [len_list, len_list]; exact hl
  obtain ⟨h1, h2⟩ := sumL_val _ _ hl' hx hy
  have hc := sumL_carry _ _ hx hy
  have hlen := sumL_len _ _ hl'
  have e : (sumD x y).data.toList = (48 + (sumL x.data.toList y.data.toList).2).toUInt8 :: (sumL x.data.toList y.data.toList).1 := by unfold sumD; simp
  refine ⟨?_, ?_⟩
  · unfold valB
    rw [e, valM_cons, fz_u8 _ (by omega), hlen, ← h1]
    grind
  · unfold AllDig
    rw [e]
    intro c hc'
    rcases List.mem_cons.1 hc' with h | h
    · rw [h]; exact dig_u8 _ (by omega)
    · exact h2 c h

/-- A number in its one form, or nearly: its size and signed size, in units of ten to the -9999. -/
def sR (n : Dn) : Int := (if n.neg then -1 else 1) * (valB n.dg * 10 ^ (n.ex + 9999).toNat)
/-- The sum in its one form. -/
def addV (p q : Dn) : Dn × Bool := tellV (decide (sR p + sR q < 0)) ((sR p + sR q).natAbs : Int) (-9999)
def mulV (p q : Dn) : Dn × Bool := tellV (p.neg != q.neg) (valB p.dg * valB q.dg) (p.ex + q.ex)

theorem tellV_at (n : Bool) (v : Int) (h : 0 ≤ v) (e : Int) (he : -9999 ≤ e) : tellV n v e = tellV n (v * 10 ^ (e + 9999).toNat) (-9999) := by
  have := tellV_shift n v h (e + 9999).toNat e
  rw [← this]
  congr 1
  omega
theorem addV_of (p q : Dn) (n : Bool) (v : Int) (h : 0 ≤ v) (e : Int) (he : -9999 ≤ e) (hv : v * 10 ^ (e + 9999).toNat = ((sR p + sR q).natAbs : Int)) (hn : sR p + sR q ≠ 0 → n = decide (sR p + sR q < 0)) :
    tellV n v e = addV p q := by
  rw [tellV_at n v h e he, hv]
  unfold addV
  by_cases hz : sR p + sR q = 0
  · rw [hz]; exact (tellV_nought _ _).trans (tellV_nought _ _).symm
  · rw [hn hz]
theorem addV_comm (p q : Dn) : addV p q = addV q p := by unfold addV; rw [Int.add_comm]
end Go.Proofs.YteenfgomanhjkaaDoor.rd
