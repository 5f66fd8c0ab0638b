/- The sum of bits, 32 bits wide: it is linear, and a burst of at most 32 bits is told. No program in it. -/
import Derived.Lib.Bytealg
namespace Go.Proofs.YtgafjbgplcjnnaaDoor.fr

def pol : BitVec 32 := 0x04c11db7#32
/-- One place up, and turned where the highest was 1. -/
def t0 (x : BitVec 32) : BitVec 32 := (x <<< 1) ^^^ (if x.msb then pol else 0#32)
def hi (b : Bool) : BitVec 32 := if b then 0x80000000#32 else 0#32
/-- One bit of the bytes. -/
def bt (s : BitVec 32) (b : Bool) : BitVec 32 := t0 (s ^^^ hi b)
def run (s : BitVec 32) (l : List Bool) : BitVec 32 := l.foldl bt s

theorem xc (a b c d : BitVec 32) : (a ^^^ b) ^^^ (c ^^^ d) = (a ^^^ c) ^^^ (b ^^^ d) := by
  ac_rfl
theorem t0_xor (x y : BitVec 32) : t0 (x ^^^ y) = t0 x ^^^ t0 y := by
  unfold t0
  rw [BitVec.shiftLeft_xor_distrib, BitVec.msb_xor, xc]
  congr 1
  cases x.msb <;> cases y.msb <;> simp
theorem hi_xor (a b : Bool) : hi (a ^^ b) = hi a ^^^ hi b := by
  cases a <;> cases b <;> decide
theorem bt_xor (s t : BitVec 32) (a b : Bool) : bt (s ^^^ t) (a ^^ b) = bt s a ^^^ bt t b := by
  unfold bt; rw [hi_xor, xc, t0_xor]
theorem run_xor : ∀ (l m : List Bool) (s t : BitVec 32), l.length = m.length → run (s ^^^ t) (List.zipWith xor l m) = run s l ^^^ run t m
  | [], [], s, t, _ => rfl
  | a :: l, b :: m, s, t, h => by
    have := run_xor l m (bt s a) (bt t b) (by simpa using h)
    simpa [run, bt_xor] using this
theorem run_append (s : BitVec 32) (l m : List Bool) : run s (l ++ m) = run (run s l) m := by
  simp [run, List.foldl_append]

theorem t0_zero : t0 0#32 = 0#32 := by decide
theorem t0_inj {x : BitVec 32} (h : t0 x = 0#32) : x = 0#32 := by
  unfold t0 at h
  cases hm : x.msb with
  | true =>
    rw [hm, if_pos rfl] at h
    have := congrArg (fun v => v.getLsbD 0) h
    simp [pol] at this
  | false =>
    rw [hm] at h
    simp only [Bool.false_eq_true, ↓reduceIte, BitVec.xor_zero] at h
    have h2 := BitVec.msb_eq_false_iff_two_mul_lt.mp hm
    have h3 := congrArg BitVec.toNat h
    rw [BitVec.toNat_shiftLeft] at h3
    apply BitVec.eq_of_toNat_eq
    simp [Nat.shiftLeft_eq] at h3 ⊢
    omega
theorem t0_inj2 {x y : BitVec 32} (h : t0 x = t0 y) : x = y := by
  have : t0 (x ^^^ y) = 0#32 := by rw [t0_xor, h, BitVec.xor_self]
  have := t0_inj this
  exact BitVec.xor_eq_zero_iff.mp this
theorem bt_false (s : BitVec 32) : bt s false = t0 s := by simp [bt, hi]
theorem run_false : ∀ (n : Nat) (s : BitVec 32), s ≠ 0#32 → run s (List.replicate n false) ≠ 0#32
  | 0, s, h => h
  | n + 1, s, h => by
    have := run_false n (t0 s) (fun e => h (t0_inj e))
    simpa [run, List.replicate_succ, bt_false] using this
theorem run_zero : ∀ (n : Nat), run 0#32 (List.replicate n false) = 0#32
  | 0 => rfl
  | n + 1 => by
    have := run_zero n
    simpa [run, List.replicate_succ, bt_false, t0_zero] using this

/-- Bits as a word, the first one highest. -/
def word : List Bool → BitVec 32
  | [] => 0#32
  | b :: l => hi b ^^^ (word l >>> 1)
def its : Nat → BitVec 32 → BitVec 32
  | 0, x => x
  | n + 1, x => its n (t0 x)
theorem its_zero : ∀ (n : Nat) {x : BitVec 32}, its n x = 0#32 → x = 0#32
  | 0, _, h => h
  | n + 1, _, h => t0_inj (its_zero n h)
theorem hi_bit (b : Bool) (i : Nat) (h : i < 31) : (hi b).getLsbD i = false := by
  cases b
  · simp [hi]
  · simp only [hi]
    revert h; revert i; decide
/-- Below the place 32 - length nothing stands. -/
theorem word_low : ∀ (l : List Bool) (i : Nat), l.length ≤ 32 → i < 32 - l.length → (word l).getLsbD i = false
  | [], i, _, _ => by simp [word]
  | b :: l, i, h, hi' => by
    simp only [List.length_cons] at h hi'
    simp only [word, BitVec.getLsbD_xor, BitVec.getLsbD_ushiftRight]
    rw [hi_bit b i (by omega), Nat.add_comm, word_low l (i + 1) (by omega) (by omega)]
    rfl
theorem t0_shift (x : BitVec 32) (h : x.getLsbD 0 = false) : t0 (x >>> 1) = x := by
  unfold t0
  have hm : (x >>> 1).msb = false := by
    rw [BitVec.msb_ushiftRight]; simp
  rw [hm]
  simp only [Bool.false_eq_true, ↓reduceIte, BitVec.xor_zero]
  apply BitVec.eq_of_toNat_eq
  rw [BitVec.toNat_shiftLeft, BitVec.toNat_ushiftRight]
  have h2 : x.toNat % 2 = 0 := by
    have : x.toNat.testBit 0 = false := h
    simpa using this
  have := x.isLt
  rw [Nat.shiftLeft_eq, Nat.shiftRight_eq_div_pow]
  omega
theorem run_word : ∀ (l : List Bool) (s : BitVec 32), l.length ≤ 32 → run s l = its l.length (s ^^^ word l)
  | [], s, _ => by simp [run, word, its]
  | b :: l, s, h => by
    simp only [List.length_cons] at h
    have h1 := run_word l (bt s b) (by omega)
    have e : run s (b :: l) = run (bt s b) l := rfl
    rw [e, h1, List.length_cons, its]
    congr 1
    rw [word, ← BitVec.xor_assoc, t0_xor, t0_shift (word l) (word_low l 0 (by omega) (by omega))]
    rfl
theorem word_ne : ∀ (l : List Bool), l.length ≤ 32 → true ∈ l → word l ≠ 0#32
  | [], _, h => by simp at h
  | b :: l, hl, h => by
    simp only [List.length_cons] at hl
    intro e
    cases b with
    | true =>
      have := congrArg BitVec.msb e
      simp [word, hi, BitVec.msb_xor, BitVec.msb_ushiftRight] at this
      revert this; decide
    | false =>
      have h2 : true ∈ l := by simpa using h
      have h0 := word_low l 0 (by omega) (by omega)
      have h3 := t0_shift (word l) h0
      have e2 : word l >>> 1 = 0#32 := by simpa [word, hi] using e
      rw [e2, t0_zero] at h3
      exact word_ne l (by omega) h2 h3.symm

/-- A burst: bits turned within 32 that stand side by side leave something else. -/
theorem burst (i j : Nat) (w : List Bool) (hw : w.length ≤ 32) (ht : true ∈ w) :
    run 0#32 (List.replicate i false ++ w ++ List.replicate j false) ≠ 0#32 := by
  rw [run_append, run_append, run_zero, run_word w _ hw]
  apply run_false
  intro e
  have := its_zero _ e
  rw [BitVec.zero_xor] at this
  exact word_ne w hw ht this

end Go.Proofs.YtgafjbgplcjnnaaDoor.fr
