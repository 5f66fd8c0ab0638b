/- Several texts in one. -/
import Derived.Test.YtmnikcnjdeldeaaDoorRlG
import Derived.Test.YtmnikcnjdeldeaaDoorRcG
import Derived.Test.YtmnikcnjdeldeaaDoorAuG
/- The contracts of the reference's answer, and what its sums come to. -/
namespace Go.Proofs.YtmnikcnjdeldeaaDoor.rd
open Go.RowKit

/-- What answer answers. -/
def ansV (r : Dn × Bool) : Dn × Int := if r.2 then (r.1, 0) else (zed, 4)

end Go.Proofs.YtmnikcnjdeldeaaDoor.rd

/- The contracts of the reference's Add and Mul. -/
namespace Go.Proofs.YtmnikcnjdeldeaaDoor.rd
open Go.RowKit

theorem dl_val (s : ByteArray) (h : AllDig s) : valL (cutN (dl s 0)) = valB s := by
  rw [valL_cutN, dl_fz, List.filter_eq_self.2 h]
  unfold valB valM
  rw [List.map_reverse]
theorem linedN_val (n : Dn) (e : Int) (h : AllDig n.dg) : valL (linedN n e) = valB n.dg * 10 ^ (n.ex - e).toNat := by
  unfold linedN
  rw [valL_append, valL_zeros, List.length_replicate, dl_val _ h]
  grind

/-- How two lists stand to each other is how their values do. -/
theorem cmpN_val (a b : List Int) (hl : a.length = b.length) (ha : Dig10 a) (hb : Dig10 b) : (cmpN a b < 0 ↔ valL a.reverse < valL b.reverse) := by
  induction a generalizing b with
  | nil =>
    cases b with
    | nil => simp [cmpN]
    | cons y s => simp at hl
  | cons x r ih =>
    cases b with
    | nil => simp at hl
    | cons y s =>
      have hl' : r.length = s.length := by simpa using hl
      have h0 := ih s hl' ha.tail.2 hb.tail.2
      have hr : Dig10 r.reverse := fun z hz => ha.tail.2 z (List.mem_reverse.1 hz)
      have hs : Dig10 s.reverse := fun z hz => hb.tail.2 z (List.mem_reverse.1 hz)
      have x0 := valL_nonneg hr
      have x1 := valL_lt hr
      have y0 := valL_nonneg hs
      have y1 := valL_lt hs
      rw [List.length_reverse] at x1 y1
      rw [← hl'] at y1
      rw [List.reverse_cons, List.reverse_cons, valL_snoc, valL_snoc, List.length_reverse, List.length_reverse, ← hl']
      have hp : (0 : Int) < 10 ^ r.length := Int.pow_pos (by omega)
      simp only [cmpN]
      generalize (10 : Int) ^ r.length = t at *
      rcases Int.lt_trichotomy x y with h | h | h
      · have h2 : t * (x + 1) ≤ t * y := Int.mul_le_mul_of_nonneg_left (by omega) (by omega)
        have h3 : t * (x + 1) = t * x + t := by grind
        rw [if_pos h]
        constructor
        · intro _; omega
        · intro _; decide
      · subst h
        rw [if_neg (by omega), if_neg (by omega), h0]
        omega
      · have h2 : t * (y + 1) ≤ t * x := Int.mul_le_mul_of_nonneg_left (by omega) (by omega)
        have h3 : t * (y + 1) = t * y + t := by grind
        rw [if_neg (by omega), if_pos h]
        constructor
        · intro q; exact absurd q (by decide)
        · intro q; omega
theorem cut_low {l : List Int} (h : Dig10 l) (hne : cutN l ≠ []) : (10 : Int) ^ ((cutN l).length - 1) ≤ valL l := by
  have h1 := cutN_last l hne
  rw [← valL_cutN]
  have hd := h.cut
  generalize cutN l = u at *
  have hp : 0 < u.length := List.length_pos_iff.2 hne
  have h2 := split_val u (u.length - 1) (by omega)
  have h3 := drop_val u (u.length - 1)
  have h4 := valL_nonneg (hd.take (u.length - 1))
  have h5 := valL_nonneg (hd.drop (u.length - 1 + 1))
  have h6 := getD_bd hd (u.length - 1)
  have h7 : (0 : Int) < 10 ^ (u.length - 1) := Int.pow_pos (by omega)
  have h8 : (10 : Int) ^ (u.length - 1) * 1 ≤ 10 ^ (u.length - 1) * valL (u.drop (u.length - 1)) := Int.mul_le_mul_of_nonneg_left (by omega) (by omega)
  omega
theorem pow_mono {m n : Nat} (h : m ≤ n) : (10 : Int) ^ m ≤ 10 ^ n := by
  obtain ⟨k, rfl⟩ : ∃ k, n = m + k := ⟨n - m, by omega⟩
  rw [Int.pow_add]
  have h1 : (0 : Int) < 10 ^ m := Int.pow_pos (by omega)
  have h2 : (0 : Int) < 10 ^ k := Int.pow_pos (by omega)
  have h3 : (10 : Int) ^ m * 1 ≤ 10 ^ m * 10 ^ k := Int.mul_le_mul_of_nonneg_left (by omega) (by omega)
  omega
theorem sizeN_lt {a b : List Int} (ha : Dig10 a) (hb : Dig10 b) (h : (cutN a).length < (cutN b).length) : valL a < valL b := by
  have h1 := valL_lt ha.cut
  rw [valL_cutN] at h1
  have h2 := cut_low hb (by intro e; rw [e] at h; simp at h)
  have h3 : (10 : Int) ^ (cutN a).length ≤ 10 ^ ((cutN b).length - 1) := pow_mono (by omega)
  omega
theorem sizeN_val {a b : List Int} (ha : Dig10 a) (hb : Dig10 b) : sizeN a b < 0 ↔ valL a < valL b := by
  unfold sizeN
  rcases Nat.lt_trichotomy (cutN a).length (cutN b).length with h | h | h
  · have := sizeN_lt ha hb h
    rw [if_pos h]
    exact ⟨fun _ => this, fun _ => by decide⟩
  · rw [if_neg (by omega), if_neg (by omega)]
    have := cmpN_val (cutN a).reverse (cutN b).reverse (by rw [List.length_reverse, List.length_reverse]; exact h) (fun z hz => ha.cut z (List.mem_reverse.1 hz)) (fun z hz => hb.cut z (List.mem_reverse.1 hz))
    rw [List.reverse_reverse, List.reverse_reverse, valL_cutN, valL_cutN] at this
    exact this
  · have := sizeN_lt hb ha h
    rw [if_neg (by omega), if_pos h]
    constructor
    · intro q; exact absurd q (by decide)
    · intro q; omega

theorem sum_same (p q : Dn) (X Y e : Int) (he : -9999 ≤ e) (x0 : 0 ≤ X) (y0 : 0 ≤ Y) (sp : sR p = (if p.neg then -1 else 1) * (X * 10 ^ (e + 9999).toNat)) (sq : sR q = (if q.neg then -1 else 1) * (Y * 10 ^ (e + 9999).toNat)) (h : p.neg = q.neg) :
    tellV p.neg (X + Y) e = addV p q := by
  have t0 : (0 : Int) < 10 ^ (e + 9999).toNat := Int.pow_pos (by omega)
  generalize ht : (10 : Int) ^ (e + 9999).toNat = t at *
  have e1 : (X + Y) * t = X * t + Y * t := Int.add_mul X Y t
  have h1 := Int.mul_nonneg x0 (Int.le_of_lt t0)
  have h2 := Int.mul_nonneg y0 (Int.le_of_lt t0)
  refine addV_of p q _ _ (by omega) _ he ?_ ?_
  · rw [ht, sp, sq, h, e1]
    cases q.neg
    · simp; omega
    · simp; omega
  · rw [sp, sq, h]
    cases q.neg
    · simp; omega
    · simp; omega
theorem sum_lt (p q : Dn) (X Y e : Int) (he : -9999 ≤ e) (sp : sR p = (if p.neg then -1 else 1) * (X * 10 ^ (e + 9999).toNat)) (sq : sR q = (if q.neg then -1 else 1) * (Y * 10 ^ (e + 9999).toNat)) (h : p.neg ≠ q.neg) (hlt : X < Y) :
    tellV q.neg (Y - X) e = addV p q := by
  have t0 : (0 : Int) < 10 ^ (e + 9999).toNat := Int.pow_pos (by omega)
  generalize ht : (10 : Int) ^ (e + 9999).toNat = t at *
  have e1 : (Y - X) * t = Y * t - X * t := Int.sub_mul Y X t
  have h1 : X * t < Y * t := Int.mul_lt_mul_of_pos_right hlt t0
  refine addV_of p q _ _ (by omega) _ he ?_ ?_
  · rw [ht, sp, sq, e1]
    cases hp : p.neg <;> cases hq : q.neg <;> simp [hp, hq] at h ⊢ <;> omega
  · rw [sp, sq]
    cases hp : p.neg <;> cases hq : q.neg <;> simp [hp, hq] at h ⊢ <;> omega
theorem sum_ge (p q : Dn) (X Y e : Int) (he : -9999 ≤ e) (sp : sR p = (if p.neg then -1 else 1) * (X * 10 ^ (e + 9999).toNat)) (sq : sR q = (if q.neg then -1 else 1) * (Y * 10 ^ (e + 9999).toNat)) (h : p.neg ≠ q.neg) (hge : Y ≤ X) :
    tellV p.neg (X - Y) e = addV p q := by
  have t0 : (0 : Int) < 10 ^ (e + 9999).toNat := Int.pow_pos (by omega)
  generalize ht : (10 : Int) ^ (e + 9999).toNat = t at *
  have e1 : (X - Y) * t = X * t - Y * t := Int.sub_mul X Y t
  have h1 : Y * t ≤ X * t := Int.mul_le_mul_of_nonneg_right hge (by omega)
  refine addV_of p q _ _ (by omega) _ he ?_ ?_
  · rw [ht, sp, sq, e1]
    cases hp : p.neg <;> cases hq : q.neg <;> simp [hp, hq] at h ⊢ <;> omega
  · rw [sp, sq]
    cases hp : p.neg <;> cases hq : q.neg <;> simp [hp, hq] at h ⊢ <;> omega

theorem valB_none (s : ByteArray) (h : s.size = 0) : valB s = 0 := by
  have : s.data.toList = [] := List.eq_nil_of_length_eq_zero (by rw [len_list]; exact h)
  unfold valB; rw [this]; rfl
theorem lined_sR (n : Dn) (e : Int) (he : -9999 ≤ e) (hd : AllDig n.dg) (h : n.dg.size = 0 ∨ e ≤ n.ex) : sR n = (if n.neg then -1 else 1) * (valL (linedN n e) * 10 ^ (e + 9999).toNat) := by
  rw [linedN_val n e hd]
  unfold sR
  rcases h with h | h
  · rw [valB_none _ h]; simp
  · rw [scale _ _ _ h he]
theorem lower_ok (p q : Dn) : (p.dg.size = 0 ∨ lowerN p q ≤ p.ex) ∧ (q.dg.size = 0 ∨ lowerN p q ≤ q.ex) := by
  unfold lowerN
  split
  · rename_i h; exact ⟨.inl h, .inr (Int.le_refl _)⟩
  · split
    · rename_i h
      rcases h with h | h
      · exact ⟨.inr (Int.le_refl _), .inl h⟩
      · exact ⟨.inr (Int.le_refl _), .inr (by omega)⟩
    · rename_i h; exact ⟨.inr (by omega), .inr (Int.le_refl _)⟩

/-- While the reference adds or multiplies: two numbers' blocks, and the answer's. -/
structure AnsW (w wc : World) (b c : Nat) (p q : Dn) : Prop where
  a : DLies wc b p
  b : DLies wc c q
  r : DLies wc (w.heap.size + 1 + 1) zed
  below : Below w.heap.size w wc
theorem AnsW.call {w wc w' : World} {b c : Nat} {p q : Dn} (h : AnsW w wc b c p q) (hb : Below wc.heap.size wc w') : AnsW w w' b c p q where
  a := h.a.below hb (blk_lt h.a)
  b := h.b.below hb (blk_lt h.b)
  r := h.r.below hb (blk_lt h.r)
  below := h.below.trans (hb.mono h.below.size)
theorem AnsW.drew {w wc : World} {b c : Nat} {p q : Dn} (h : AnsW w wc b c p q) : AnsW w wc.drew b c p q := ⟨h.a, h.b, h.r, h.below.drew⟩
theorem AnsW.start (w : World) (p q : Dn) :
    AnsW w (((w.alloc (.cells #[.bool p.neg, .string p.dg, .int .i64 p.ex] 47)).alloc (.cells #[.bool q.neg, .string q.dg, .int .i64 q.ex] 47)).alloc (.cells #[.bool false, .string ⟨#[]⟩, .int .i64 0] 47)) w.heap.size (w.heap.size + 1) p q where
  a := ((dlies_new w p).alloc _).alloc _
  b := by
    have := (dlies_new (w.alloc (.cells #[.bool p.neg, .string p.dg, .int .i64 p.ex] 47)) q).alloc (.cells #[.bool false, .string ⟨#[]⟩, .int .i64 0] 47)
    simpa using this
  r := by
    have := dlies_new ((w.alloc (.cells #[.bool p.neg, .string p.dg, .int .i64 p.ex] 47)).alloc (.cells #[.bool q.neg, .string q.dg, .int .i64 q.ex] 47)) zed
    rw [show ((w.alloc (.cells #[.bool p.neg, .string p.dg, .int .i64 p.ex] 47)).alloc (.cells #[.bool q.neg, .string q.dg, .int .i64 q.ex] 47)).heap.size = w.heap.size + 1 + 1 by simp] at this
    exact this
  below := (((Below.refl _ _).alloc (Nat.le_refl _) _).alloc (by simp) _).alloc (by simp; omega) _
end Go.Proofs.YtmnikcnjdeldeaaDoor.rd
