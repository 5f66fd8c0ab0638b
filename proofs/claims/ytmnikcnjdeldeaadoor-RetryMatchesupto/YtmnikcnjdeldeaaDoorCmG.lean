/- Several texts in one. -/
import Derived.Test.YtmnikcnjdeldeaaDoorTxG
import Derived.Lib.Bytealg
/- How two numbers in their one form stand to each other, told in two ways: no program in it. -/
namespace Go.Proofs.YtmnikcnjdeldeaaDoor.rd
open Go.RowKit

/-- Two rows of one length, the greatest place first. -/
def cmpN : List Int → List Int → Int
  | a :: x, b :: y => if a < b then -1 else if b < a then 1 else cmpN x y
  | _, _ => 0
/-- Two lists of digits, the least first. -/
def sizeN (a b : List Int) : Int :=
  if (cutN a).length < (cutN b).length then -1 else if (cutN b).length < (cutN a).length then 1 else cmpN (cutN a).reverse (cutN b).reverse
def linedN (n : Dn) (e : Int) : List Int := List.replicate (n.ex - e).toNat 0 ++ cutN (dl n.dg 0)
def lowerN (p q : Dn) : Int := if p.dg.size = 0 then q.ex else if q.dg.size = 0 ∨ p.ex < q.ex then p.ex else q.ex
def signN (n : Dn) : Int := if n.dg.size = 0 then 0 else if n.neg then -1 else 1
def topN (n : Dn) : Int := n.dg.size + n.ex
def cmpS (p q : Dn) : Int := if topN p < topN q then -1 else if topN q < topN p then 1 else Lib.compareBytes p.dg.data.toList q.dg.data.toList
def decCmp (p q : Dn) : Int := if signN p < signN q then -1 else if signN q < signN p then 1 else if p.neg then cmpS q p else cmpS p q
def refCmp (p q : Dn) : Int := if signN p < signN q then -1 else if signN q < signN p then 1 else signN p * sizeN (linedN p (lowerN p q)) (linedN q (lowerN p q))

/-- A number in its one form that isn't nought. -/
structure Formed (n : Dn) : Prop where
  dig : AllDig n.dg
  ne : n.dg.data.toList ≠ []
  hd : ∀ c, n.dg.data.toList.head? = some c → c ≠ 48
  la : ∀ c, n.dg.data.toList.getLast? = some c → c ≠ 48
  e0 : -9999 ≤ n.ex
  e1 : n.ex ≤ 9999

theorem head_dropW (l : List UInt8) (c : UInt8) (h : (l.dropWhile (· == 48)).head? = some c) : c ≠ 48 := by
  intro e
  subst e
  induction l with
  | nil => simp at h
  | cons a r ih =>
    rw [List.dropWhile_cons] at h
    split at h
    · exact ih h
    · rename_i hn
      simp at h
      subst h
      simp at hn

theorem oneForm_formed (neg : Bool) (s : ByteArray) (ex : Int) (hd : AllDig s) : (oneForm neg s ex).1 = zed ∨ Formed (oneForm neg s ex).1 := by
  have good := oneForm_good neg s ex hd
  unfold oneForm at good ⊢
  by_cases h1 : (trimR (trimL s)).size = 0
  · rw [if_pos h1]; exact .inl rfl
  · rw [if_neg h1] at good ⊢
    by_cases h2 : 9999 < ex
    · rw [if_pos h2]; exact .inl rfl
    · rw [if_neg h2] at good ⊢
      by_cases h3 : ex + ((trimL s).size - (trimR (trimL s)).size) < -9999 ∨ 9999 < ex + ((trimL s).size - (trimR (trimL s)).size)
      · rw [if_pos h3]; exact .inl rfl
      · rw [if_neg h3] at good ⊢
        refine .inr ⟨good.2.2.2, ?_, ?_, ?_, good.2.1, good.2.2.1⟩
        · intro e
          apply h1
          have : (trimR (trimL s)).data.toList.length = (trimR (trimL s)).size := by rw [Array.length_toList]; rfl
          rw [← this]
          simp only at e
          rw [e]; rfl
        · intro c hc
          simp only at hc
          have e1 : (trimR (trimL s)).data.toList = (((s.data.toList.dropWhile (· == 48)).reverse).dropWhile (· == 48)).reverse := rfl
          rw [e1] at hc
          have pre := List.reverse_prefix.2 (List.dropWhile_suffix (l := (s.data.toList.dropWhile (· == 48)).reverse) (fun x : UInt8 => x == 48))
          rw [List.reverse_reverse] at pre
          obtain ⟨t, ht⟩ := pre
          refine head_dropW s.data.toList c ?_
          rw [← ht, List.head?_append, hc]
          rfl
        · intro c hc
          simp only at hc
          have e1 : (trimR (trimL s)).data.toList = (((s.data.toList.dropWhile (· == 48)).reverse).dropWhile (· == 48)).reverse := rfl
          rw [e1, List.getLast?_reverse] at hc
          exact head_dropW _ c hc
theorem norm_formed (d : Dn) : norm d = zed ∨ Formed (norm d) := oneForm_formed _ _ _ (digs_dig _)

theorem Formed.list {n : Dn} (h : Formed n) : cutN (dl n.dg 0) = (n.dg.data.toList.map fz).reverse := by
  rw [dl_fz, List.filter_eq_self.2 h.dig, cutN_fz]
  have hh := h.hd
  cases hx : n.dg.data.toList with
  | nil => rfl
  | cons a r =>
    rw [hx] at hh
    have : ¬ (a == 48) = true := by simpa using hh a rfl
    rw [List.dropWhile_cons, if_neg this]

theorem fz_pos (c : UInt8) (hd : nu.dig c = true) (h : c ≠ 48) : 0 < fz c := by
  have hc : 48 ≤ c.toNat ∧ c.toNat ≤ 57 := by simpa [nu.dig] using hd
  have : c.toNat ≠ 48 := fun e => h (UInt8.toNat_inj.1 (by simpa using e))
  unfold fz; omega
theorem fz_lt (a b : UInt8) : (fz a < fz b) ↔ a < b := by
  rw [UInt8.lt_iff_toNat_lt]; unfold fz; omega

theorem Formed.lined {n : Dn} (h : Formed n) (e : Int) : (cutN (linedN n e)).reverse = n.dg.data.toList.map fz ++ List.replicate (n.ex - e).toNat 0 ∧ (cutN (linedN n e)).length = n.dg.size + (n.ex - e).toNat := by
  have hl : (linedN n e).reverse = n.dg.data.toList.map fz ++ List.replicate (n.ex - e).toNat 0 := by
    unfold linedN; rw [h.list]; simp
  have hz : n.dg.data.toList.length = n.dg.size := by rw [Array.length_toList]; rfl
  have hc : (cutN (linedN n e)).reverse = (linedN n e).reverse := by
    unfold cutN
    rw [List.reverse_reverse, hl]
    have hh := h.hd
    have hdg := h.dig
    have hne := h.ne
    unfold AllDig at hdg
    cases hx : n.dg.data.toList with
    | nil => exact absurd hx hne
    | cons a r =>
      rw [hx] at hh hdg
      have h1 := fz_pos a (hdg a (by simp)) (hh a rfl)
      rw [List.map_cons, List.cons_append, List.dropWhile_cons, if_neg (by simp; omega)]
  refine ⟨hc.trans hl, ?_⟩
  rw [← List.length_reverse, hc, hl, List.length_append, List.length_map, List.length_replicate, hz]

theorem cmpN_same (k : Nat) : cmpN (List.replicate k 0) (List.replicate k 0) = 0 := by
  induction k with
  | zero => rfl
  | succ k ih => rw [List.replicate_succ]; simp [cmpN, ih]
theorem last_tail {a : UInt8} {r : List UInt8} (h : ∀ c, (a :: r).getLast? = some c → c ≠ 48) : ∀ c, r.getLast? = some c → c ≠ 48 := by
  intro c hc
  cases r with
  | nil => simp at hc
  | cons b t => exact h c (by rw [List.getLast?_cons_cons]; exact hc)

theorem cmpN_low (q : List UInt8) (k m : Nat) (hk : k = q.length + m) (hd : ∀ c ∈ q, nu.dig c = true) (hne : q ≠ []) (hl : ∀ c, q.getLast? = some c → c ≠ 48) :
    cmpN (List.replicate k 0) (q.map fz ++ List.replicate m 0) = -1 ∧ cmpN (q.map fz ++ List.replicate m 0) (List.replicate k 0) = 1 := by
  induction q generalizing k with
  | nil => exact absurd rfl hne
  | cons b r ih =>
    obtain ⟨j, rfl⟩ : ∃ j, k = j + 1 := ⟨k - 1, by simp at hk; omega⟩
    rw [List.replicate_succ, List.map_cons, List.cons_append]
    by_cases hb : b = 48
    · have hr : r ≠ [] := by
        intro e; subst e
        exact hl b rfl hb
      have h0 : fz b = 0 := by subst hb; rfl
      have := ih j (by simp at hk; omega) (fun c hc => hd c (by simp [hc])) hr (last_tail hl)
      simp [cmpN, h0, this]
    · have h1 := fz_pos b (hd b (by simp)) hb
      have h2 : ¬ fz b < 0 := by omega
      simp [cmpN, h1, h2]

theorem cmp_pad (p q : List UInt8) (k m : Nat) (hk : p.length + k = q.length + m) (dp : ∀ c ∈ p, nu.dig c = true) (dq : ∀ c ∈ q, nu.dig c = true)
    (lp : ∀ c, p.getLast? = some c → c ≠ 48) (lq : ∀ c, q.getLast? = some c → c ≠ 48) : cmpN (p.map fz ++ List.replicate k 0) (q.map fz ++ List.replicate m 0) = Lib.compareBytes p q := by
  induction p generalizing q with
  | nil =>
    cases q with
    | nil => simp at hk; subst hk; simp [cmpN_same, Lib.compareBytes]
    | cons b r =>
      have := (cmpN_low (b :: r) k m (by simpa using hk) dq (by simp) lq).1
      rw [List.map_nil, List.nil_append, this]; simp [Lib.compareBytes]
  | cons a p' ih =>
    cases q with
    | nil =>
      have := (cmpN_low (a :: p') m k (by simpa using hk.symm) dp (by simp) lp).2
      rw [List.map_nil, List.nil_append, this]; simp [Lib.compareBytes]
    | cons b r =>
      have := ih r (by simp at hk; omega) (fun c hc => dp c (by simp [hc])) (fun c hc => dq c (by simp [hc])) (last_tail lp) (last_tail lq)
      simp only [List.map_cons, List.cons_append, cmpN, Lib.compareBytes, fz_lt, this]

theorem cb_flip (a b : List UInt8) : Lib.compareBytes a b = - Lib.compareBytes b a := by
  induction a generalizing b with
  | nil => cases b <;> simp [Lib.compareBytes]
  | cons x r ih =>
    cases b with
    | nil => simp [Lib.compareBytes]
    | cons y t =>
      simp only [Lib.compareBytes]
      by_cases h1 : x < y
      · have h2 : ¬ y < x := by rw [UInt8.lt_iff_toNat_lt] at *; omega
        simp [h1, h2]
      · by_cases h2 : y < x
        · simp [h1, h2]
        · simp [h1, h2]; exact ih t
theorem cb_same (a : List UInt8) : Lib.compareBytes a a = 0 := by
  induction a with
  | nil => rfl
  | cons x r ih =>
    have : ¬ x < x := by rw [UInt8.lt_iff_toNat_lt]; omega
    simp [Lib.compareBytes, this, ih]
theorem cmpS_flip (p q : Dn) : cmpS p q = - cmpS q p := by
  unfold cmpS
  by_cases h1 : topN p < topN q
  · rw [if_pos h1, if_neg (by omega), if_pos h1]
  · by_cases h2 : topN q < topN p
    · rw [if_neg h1, if_pos h2, if_pos h2]; rfl
    · rw [if_neg h1, if_neg h2, if_neg h2, if_neg h1]; exact cb_flip _ _

theorem size_eq (p q : Dn) (hp : Formed p) (hq : Formed q) (e : Int) (h1 : e ≤ p.ex) (h2 : e ≤ q.ex) : sizeN (linedN p e) (linedN q e) = cmpS p q := by
  obtain ⟨p1, p2⟩ := hp.lined e
  obtain ⟨q1, q2⟩ := hq.lined e
  have zp : p.dg.data.toList.length = p.dg.size := by rw [Array.length_toList]; rfl
  have zq : q.dg.data.toList.length = q.dg.size := by rw [Array.length_toList]; rfl
  unfold sizeN cmpS topN
  rw [p2, q2, p1, q1]
  by_cases a1 : (p.dg.size : Int) + p.ex < q.dg.size + q.ex
  · rw [if_pos (by omega), if_pos a1]
  · by_cases a2 : (q.dg.size : Int) + q.ex < p.dg.size + p.ex
    · rw [if_neg (by omega), if_pos (by omega), if_neg a1, if_pos a2]
    · rw [if_neg (by omega), if_neg (by omega), if_neg a1, if_neg a2]
      exact cmp_pad _ _ _ _ (by omega) hp.dig hq.dig hp.la hq.la

theorem Formed.pos {n : Dn} (h : Formed n) : n.dg.size ≠ 0 := by
  intro e
  have zp : n.dg.data.toList.length = n.dg.size := by rw [Array.length_toList]; rfl
  exact h.ne (List.eq_nil_of_length_eq_zero (by omega))
theorem lower_le (p q : Dn) (hp : p.dg.size ≠ 0) (hq : q.dg.size ≠ 0) : lowerN p q ≤ p.ex ∧ lowerN p q ≤ q.ex := by
  unfold lowerN
  rw [if_neg hp]
  by_cases h : q.dg.size = 0 ∨ p.ex < q.ex
  · rw [if_pos h]; omega
  · rw [if_neg h]; omega

def Whole1 (n : Dn) : Prop := n = zed ∨ Formed n
theorem sign_zed : signN zed = 0 := rfl
theorem sign_formed {n : Dn} (h : Formed n) : signN n = if n.neg then -1 else 1 := by unfold signN; rw [if_neg h.pos]

theorem cmp_eq (p q : Dn) (hp : Whole1 p) (hq : Whole1 q) : decCmp p q = refCmp p q := by
  unfold decCmp refCmp
  by_cases h1 : signN p < signN q
  · rw [if_pos h1, if_pos h1]
  · by_cases h2 : signN q < signN p
    · rw [if_neg h1, if_pos h2, if_neg h1, if_pos h2]
    · rw [if_neg h1, if_neg h2, if_neg h1, if_neg h2]
      rcases hp with rfl | fp
      · rcases hq with rfl | fq
        · rw [sign_zed]
          show cmpS zed zed = _
          simp [cmpS, cb_same]
        · exfalso
          rw [sign_zed, sign_formed fq] at h1 h2
          by_cases hn : q.neg = true <;> simp [hn] at h1 h2
      · rcases hq with rfl | fq
        · exfalso
          rw [sign_zed, sign_formed fp] at h1 h2
          by_cases hn : p.neg = true <;> simp [hn] at h1 h2
        · obtain ⟨l1, l2⟩ := lower_le p q fp.pos fq.pos
          rw [size_eq p q fp fq _ l1 l2, sign_formed fp]
          cases p.neg
          · simp
          · simp; rw [cmpS_flip]
theorem decCmp_flip (p q : Dn) (hp : Whole1 p) (hq : Whole1 q) : decCmp p q = - decCmp q p := by
  unfold decCmp
  by_cases h1 : signN p < signN q
  · rw [if_pos h1, if_neg (by omega), if_pos h1]
  · by_cases h2 : signN q < signN p
    · rw [if_neg h1, if_pos h2, if_pos h2]; rfl
    · rw [if_neg h1, if_neg h2, if_neg h2, if_neg h1]
      rcases hp with rfl | fp
      · rcases hq with rfl | fq
        · show cmpS zed zed = - cmpS zed zed
          simp [cmpS, cb_same]
        · exfalso
          rw [sign_zed, sign_formed fq] at h1 h2
          by_cases hn : q.neg = true <;> simp [hn] at h1 h2
      · rcases hq with rfl | fq
        · exfalso
          rw [sign_zed, sign_formed fp] at h1 h2
          by_cases hn : p.neg = true <;> simp [hn] at h1 h2
        · rw [sign_formed fp, sign_formed fq] at h1 h2
          have e : p.neg = q.neg := by
            cases hpn : p.neg <;> cases hqn : q.neg <;> simp [hpn, hqn] at h1 h2 ⊢
          rw [e]
          cases q.neg
          · simp only [Bool.false_eq_true, if_false]; exact cmpS_flip p q
          · simp only [if_true]; exact cmpS_flip q p
end Go.Proofs.YtmnikcnjdeldeaaDoor.rd

/- The contracts of sign, compareSizes and Cmp. -/
namespace Go.Proofs.YtmnikcnjdeldeaaDoor.rd
open Go.RowKit

/-- Two numbers in two blocks of a call's own. -/
structure PairW (w wc : World) (p q : Dn) : Prop where
  a : DLies wc w.heap.size p
  b : DLies wc (w.heap.size + 1) q
  below : Below w.heap.size w wc
theorem PairW.start (w : World) (p q : Dn) : PairW w ((w.alloc (.cells #[.bool p.neg, .string p.dg, .int .i64 p.ex] 47)).alloc (.cells #[.bool q.neg, .string q.dg, .int .i64 q.ex] 47)) p q where
  a := (dlies_new w p).alloc _
  b := by
    have := dlies_new (w.alloc (.cells #[.bool p.neg, .string p.dg, .int .i64 p.ex] 47)) q
    simpa using this
  below := ((Below.refl _ _).alloc (Nat.le_refl _) _).alloc (by simp) _
theorem PairW.call {w wc w' : World} {p q : Dn} (h : PairW w wc p q) (hb : Below wc.heap.size wc w') : PairW w w' p q where
  a := h.a.below hb (blk_lt h.a)
  b := h.b.below hb (blk_lt h.b)
  below := h.below.trans (hb.mono h.below.size)
theorem PairW.drew {w wc : World} {p q : Dn} (h : PairW w wc p q) : PairW w wc.drew p q := ⟨h.a, h.b, h.below.drew⟩
theorem PairW.set1 {w wc : World} {p q : Dn} (h : PairW w wc p q) (x : Dn) :
    PairW w (((wc.setCell ⟨w.heap.size, 0, none⟩ (.bool x.neg)).setCell ⟨w.heap.size, 1, none⟩ (.string x.dg)).setCell ⟨w.heap.size, 2, none⟩ (.int .i64 x.ex)) x q := by
  have hu := (Upd.setCell w.heap.size 0 wc (.bool x.neg)).trans ((Upd.setCell w.heap.size 1 _ (.string x.dg)).trans (Upd.setCell w.heap.size 2 _ (.int .i64 x.ex)))
  exact ⟨h.a.set _ _ _, (hu.block _ (by omega)).trans h.b, below3 h.below (Nat.le_refl _) _ _ _⟩
theorem PairW.set2 {w wc : World} {p q : Dn} (h : PairW w wc p q) (x : Dn) :
    PairW w (((wc.setCell ⟨w.heap.size + 1, 0, none⟩ (.bool x.neg)).setCell ⟨w.heap.size + 1, 1, none⟩ (.string x.dg)).setCell ⟨w.heap.size + 1, 2, none⟩ (.int .i64 x.ex)) p x := by
  have hu := (Upd.setCell (w.heap.size + 1) 0 wc (.bool x.neg)).trans ((Upd.setCell (w.heap.size + 1) 1 _ (.string x.dg)).trans (Upd.setCell (w.heap.size + 1) 2 _ (.int .i64 x.ex)))
  exact ⟨(hu.block _ (by omega)).trans h.a, h.b.set _ _ _, below3 h.below (by omega) _ _ _⟩

theorem sign_any (d : Dn) (w : World) : Calls Tryd.prog 42 #[dv d] w fun e w' => e = .returned (.int .i64 (signN d)) ∧ Below w.heap.size w w' := by
  obtain ⟨n, g, x⟩ := d
  simp only [dv]
  have HS : Hid (signN ⟨n, g, x⟩ = if g.size = 0 then 0 else if n then -1 else 1) := rfl
  generalize signN ⟨n, g, x⟩ = r at HS ⊢
  by_cases hz : g.size = 0
  · have hz' : g.toList.isEmpty = true := by rw [empty_iff]; simpa using hz
    have hr : r = 0 := by rw [HS.out, if_pos hz]
    subst hr
    clear hz HS
    go_enter Tryd.func42, Tryd.ntmps42
    go_wp2
    go_ret
    exact ⟨rfl, (Below.refl _ _).alloc (Nat.le_refl _) _⟩
  · have hz' : g.toList.isEmpty = false := by rw [empty_iff]; simpa using hz
    have hr : r = if n then -1 else 1 := by rw [HS.out, if_neg hz]
    subst hr
    clear hz HS
    cases n
    all_goals go_enter Tryd.func42, Tryd.ntmps42
    all_goals go_wp2
    all_goals go_ret
    all_goals exact ⟨rfl, (Below.refl _ _).alloc (Nat.le_refl _) _⟩

theorem cmpInt_in (a b : Int) : Lib.compareInt a b = if a < b then -1 else if b < a then 1 else 0 := by
  unfold Lib.compareInt
  by_cases h1 : a < b
  · simp [h1]
  · by_cases h2 : b < a
    · simp [h1, h2]
    · simp [h1, h2]

set_option maxRecDepth 100000 in
set_option maxHeartbeats 1600000 in
theorem compareSizes_any (p q : Dn) (w : World) (hp : p.dg.size ≤ 1099511627776) (hq : q.dg.size ≤ 1099511627776) (p0 : -9999 ≤ p.ex) (p1 : p.ex ≤ 9999) (q0 : -9999 ≤ q.ex) (q1 : q.ex ≤ 9999) :
    Calls Tryd.prog 43 #[dv p, dv q] w fun e w' => e = .returned (.int .i64 (cmpS p q)) ∧ Below w.heap.size w w' := by
  have hW := PairW.start w p q
  have T1 := hide (fun w => top_any p w (by omega) (by omega) (by omega))
  have T2 := hide (fun w => top_any q w (by omega) (by omega) (by omega))
  have K := hide (fun w => Tryd.cmp_Compare_int (p.dg.size + p.ex) (q.dg.size + q.ex) w)
  have S := hide (fun w => Tryd.strings_Compare p.dg q.dg w)
  have HC : Hid (cmpS p q = if (p.dg.size : Int) + p.ex < q.dg.size + q.ex then -1 else if (q.dg.size : Int) + q.ex < p.dg.size + p.ex then 1 else Lib.compareBytes p.dg.data.toList q.dg.data.toList) := rfl
  have hk := cmpInt_in (p.dg.size + p.ex) (q.dg.size + q.ex)
  generalize cmpS p q = r at HC ⊢
  obtain ⟨pn, pg, px⟩ := p
  obtain ⟨qn, qg, qx⟩ := q
  simp only [dv] at T1 T2 K S HC hW hk ⊢
  generalize hc : Lib.compareInt (pg.size + px) (qg.size + qx) = c at *
  obtain ⟨x0, x1, x2⟩ := hW.a.cells
  obtain ⟨y0, y1, y2⟩ := hW.b.cells
  simp only at x0 x1 x2 y0 y1 y2
  generalize Lib.compareBytes pg.data.toList qg.data.toList = cb at *
  have HK : Hid ((c = 0 ∧ r = cb) ∨ ((c == 0) = false ∧ c = r)) := by
    show (c = 0 ∧ r = cb) ∨ ((c == 0) = false ∧ c = r)
    have hr := HC.out
    by_cases h1 : (pg.size : Int) + px < qg.size + qx
    · rw [if_pos h1] at hk hr; rw [hk, hr]; exact .inr ⟨rfl, rfl⟩
    · by_cases h2 : (qg.size : Int) + qx < pg.size + px
      · rw [if_neg h1, if_pos h2] at hk hr; rw [hk, hr]; exact .inr ⟨rfl, rfl⟩
      · rw [if_neg h1, if_neg h2] at hk hr; exact .inl ⟨hk, hr⟩
  clear hc hk HC hp hq p0 p1 q0 q1
  go_enter Tryd.func43, Tryd.ntmps43
  go_wp2_with fail
  go_cut [5] from 6 (fun s5 wd => s5 = .int .i64 c ∧ PairW w wd ⟨pn, pg, px⟩ ⟨qn, qg, qx⟩)
  case first =>
    go_region_held3 (fun w' => w'.cell? ⟨w.heap.size, 0, none⟩ = some (.bool pn) ∧ w'.cell? ⟨w.heap.size, 1, none⟩ = some (.string pg) ∧ w'.cell? ⟨w.heap.size, 2, none⟩ = some (.int .i64 px) ∧ w'.cell? ⟨w.heap.size + 1, 0, none⟩ = some (.bool qn) ∧ w'.cell? ⟨w.heap.size + 1, 1, none⟩ = some (.string qg) ∧ w'.cell? ⟨w.heap.size + 1, 2, none⟩ = some (.int .i64 qx)) (((try dsimp only); (repeat' apply And.intro); all_goals first | (go_keep; done) | (simp; omega))) (first
      | (go_at_call_of 40 (Value.agg #[.bool pn, .string pg, .int .i64 px]); refine (unhide T1 _).mono ?_; rintro e w1 ⟨rfl, h1⟩; obtain ⟨k0, k1, k2, k3, k4, k5⟩ := keepAd (b0 := w.heap.size) (b1 := w.heap.size + 1) (v0 := .bool pn) (v1 := .string pg) (v2 := .int .i64 px) (v3 := .bool qn) (v4 := .string qg) (v5 := .int .i64 qx) h1 (by first | assumption | go_keep); have hW1 := hW.drew.call h1; clear h1)
      | (go_at_call_of 40 (Value.agg #[.bool qn, .string qg, .int .i64 qx]); refine (unhide T2 _).mono ?_; rintro e w2 ⟨rfl, h2⟩; obtain ⟨m0, m1, m2, m3, m4, m5⟩ := keepAd (b0 := w.heap.size) (b1 := w.heap.size + 1) (v0 := .bool pn) (v1 := .string pg) (v2 := .int .i64 px) (v3 := .bool qn) (v4 := .string qg) (v5 := .int .i64 qx) h2 (by first | assumption | go_keep); have hW2 := hW1.call h2; clear h2)
      | (go_at_call 41; refine (unhide K _).mono ?_; rintro e w3 ⟨rfl, rfl⟩))
    all_goals go_wp2_with fail
    all_goals go_meet
    all_goals exact ⟨rfl, hW2⟩
  case rest =>
    clear hW x0 x1 x2 y0 y1 y2
    obtain ⟨rfl, hA⟩ := hcut
    obtain ⟨x0, x1, x2⟩ := hA.a.cells
    obtain ⟨y0, y1, y2⟩ := hA.b.cells
    simp only at x0 x1 x2 y0 y1 y2
    rcases HK.out with ⟨rfl, rfl⟩ | ⟨hc, rfl⟩
    · clear HK
      go_wp2_with fail
      refine (unhide S _).mono ?_
      rintro e w3 ⟨rfl, rfl⟩
      go_wp2
      go_ret
      exact ⟨rfl, hA.below⟩
    · clear HK
      go_wp2
      go_ret
      exact ⟨rfl, hA.below⟩

theorem cmpS_bd (p q : Dn) : cmpS p q = -1 ∨ cmpS p q = 0 ∨ cmpS p q = 1 := by
  unfold cmpS
  split
  · exact .inl rfl
  · split
    · exact .inr (.inr rfl)
    · generalize p.dg.data.toList = a
      generalize q.dg.data.toList = b
      induction a generalizing b with
      | nil => cases b <;> simp [Lib.compareBytes]
      | cons x r ih =>
        cases b with
        | nil => simp [Lib.compareBytes]
        | cons y t =>
          simp only [Lib.compareBytes]
          split
          · exact .inl rfl
          · split
            · exact .inr (.inr rfl)
            · exact ih t

set_option maxRecDepth 100000 in
set_option maxHeartbeats 1600000 in
theorem cmp_any (a b : Dn) (w : World) (hsa : a.dg.size ≤ 1099511627776) (hsb : b.dg.size ≤ 1099511627776)
    (ha0 : -9223372036854775808 ≤ a.ex) (ha1 : a.ex ≤ 9223372036854775807) (hb0 : -9223372036854775808 ≤ b.ex) (hb1 : b.ex ≤ 9223372036854775807) :
    Calls Tryd.prog 35 #[dv a, dv b] w fun e w' => e = .returned (.int .i64 (decCmp (norm a) (norm b))) ∧ Below w.heap.size w w' := by
  have hW := PairW.start w a b
  have c1 := fun w => norm_any a w (by omega) ha0 ha1
  have c2 := fun w => norm_any b w (by omega) hb0 hb1
  obtain ⟨an, ag, ax⟩ := a
  obtain ⟨bn, bg, bx⟩ := b
  have gp := norm_good ⟨an, ag, ax⟩
  have gq := norm_good ⟨bn, bg, bx⟩
  generalize norm ⟨an, ag, ax⟩ = p at *
  generalize norm ⟨bn, bg, bx⟩ = q at *
  have S1 := hide (fun w => sign_any p w)
  have S2 := hide (fun w => sign_any q w)
  have K := hide (fun w => Tryd.cmp_Compare_int (signN p) (signN q) w)
  have hk := cmpInt_in (signN p) (signN q)
  have Z1 := hide (fun w => compareSizes_any p q w (by simp only at *; omega) (by simp only at *; omega) (by omega) (by omega) (by omega) (by omega))
  have Z2 := hide (fun w => compareSizes_any q p w (by simp only at *; omega) (by simp only at *; omega) (by omega) (by omega) (by omega) (by omega))
  have HC : Hid (decCmp p q = if signN p < signN q then -1 else if signN q < signN p then 1 else if p.neg then cmpS q p else cmpS p q) := rfl
  generalize decCmp p q = r at HC ⊢
  generalize Lib.compareInt (signN p) (signN q) = c at *
  generalize cmpS p q = z1 at *
  generalize cmpS q p = z2 at *
  generalize signN p = sp at *
  generalize signN q = sq at *
  obtain ⟨pn, pg, px⟩ := p
  obtain ⟨qn, qg, qx⟩ := q
  simp only [dv] at c1 c2 hW S1 S2 Z1 Z2 HC ⊢
  have HK : Hid ((c = 0 ∧ r = if pn then z2 else z1) ∨ ((c == 0) = false ∧ c = r)) := by
    show (c = 0 ∧ r = if pn then z2 else z1) ∨ ((c == 0) = false ∧ c = r)
    have hr := HC.out
    by_cases h1 : sp < sq
    · rw [if_pos h1] at hk hr; rw [hk, hr]; exact .inr ⟨rfl, rfl⟩
    · by_cases h2 : sq < sp
      · rw [if_neg h1, if_pos h2] at hk hr; rw [hk, hr]; exact .inr ⟨rfl, rfl⟩
      · rw [if_neg h1, if_neg h2] at hk hr; exact .inl ⟨hk, hr⟩
  have C1 := hide c1
  have C2 := hide c2
  clear c1 c2 hk HC gp gq hsa hsb ha0 ha1 hb0 hb1
  go_enter Tryd.func35, Tryd.ntmps35
  go_wp2_with fail
  go_cut [] from 6 (fun wc => PairW w wc ⟨pn, pg, px⟩ ⟨qn, qg, qx⟩)
  case first =>
    go_region_with (first
      | (go_at_call_of 38 (Value.agg #[.bool an, .string ag, .int .i64 ax]); refine (unhide C1 _).mono ?_; rintro e w1 ⟨rfl, h1⟩; have hW1 := hW.drew.call h1; obtain ⟨x0, x1, x2⟩ := hW1.a.cells; obtain ⟨y0, y1, y2⟩ := hW1.b.cells)
      | (go_at_call_of 38 (Value.agg #[.bool bn, .string bg, .int .i64 bx]); refine (unhide C2 _).mono ?_; rintro e w2 ⟨rfl, h2⟩; have hW2 := hW1.call h2; obtain ⟨X0, X1, X2⟩ := hW2.a.cells; obtain ⟨Y0, Y1, Y2⟩ := hW2.b.cells; obtain ⟨fx0, fx1, fx2⟩ := hW2.a.frees; obtain ⟨fy0, fy1, fy2⟩ := hW2.b.frees))
    all_goals go_wp2_with fail
    all_goals go_meet
    all_goals exact (hW2.set1 ⟨pn, pg, px⟩).set2 ⟨qn, qg, qx⟩
  case rest =>
    clear hW C1 C2
    obtain ⟨x0, x1, x2⟩ := hcut.a.cells
    obtain ⟨y0, y1, y2⟩ := hcut.b.cells
    simp only at x0 x1 x2 y0 y1 y2
    have hA := hcut
    clear hcut
    go_wp2_with fail
    go_cut [5] from 6 (fun s5 wd => s5 = .int .i64 c ∧ PairW w wd ⟨pn, pg, px⟩ ⟨qn, qg, qx⟩)
    case first =>
      go_region_held3 (fun w' => w'.cell? ⟨w.heap.size, 0, none⟩ = some (.bool pn) ∧ w'.cell? ⟨w.heap.size, 1, none⟩ = some (.string pg) ∧ w'.cell? ⟨w.heap.size, 2, none⟩ = some (.int .i64 px) ∧ w'.cell? ⟨w.heap.size + 1, 0, none⟩ = some (.bool qn) ∧ w'.cell? ⟨w.heap.size + 1, 1, none⟩ = some (.string qg) ∧ w'.cell? ⟨w.heap.size + 1, 2, none⟩ = some (.int .i64 qx)) (((try dsimp only); (repeat' apply And.intro); all_goals first | (go_keep; done) | (simp; omega))) (first
        | (go_at_call_of 42 (Value.agg #[.bool pn, .string pg, .int .i64 px]); refine (unhide S1 _).mono ?_; rintro e w1 ⟨rfl, h1⟩; obtain ⟨k0, k1, k2, k3, k4, k5⟩ := keepAd (b0 := w.heap.size) (b1 := w.heap.size + 1) (v0 := .bool pn) (v1 := .string pg) (v2 := .int .i64 px) (v3 := .bool qn) (v4 := .string qg) (v5 := .int .i64 qx) h1 (by first | assumption | go_keep); have hW1 := hA.drew.call h1; clear h1)
        | (go_at_call_of 42 (Value.agg #[.bool qn, .string qg, .int .i64 qx]); refine (unhide S2 _).mono ?_; rintro e w2 ⟨rfl, h2⟩; obtain ⟨m0, m1, m2, m3, m4, m5⟩ := keepAd (b0 := w.heap.size) (b1 := w.heap.size + 1) (v0 := .bool pn) (v1 := .string pg) (v2 := .int .i64 px) (v3 := .bool qn) (v4 := .string qg) (v5 := .int .i64 qx) h2 (by first | assumption | go_keep); have hW2 := hW1.call h2; clear h2)
        | (go_at_call 41; refine (unhide K _).mono ?_; rintro e w3 ⟨rfl, rfl⟩))
      all_goals go_wp2_with fail
      all_goals go_meet
      all_goals exact ⟨rfl, hW2⟩
    case rest =>
      clear hA x0 x1 x2 y0 y1 y2
      obtain ⟨rfl, hB⟩ := hcut
      obtain ⟨x0, x1, x2⟩ := hB.a.cells
      obtain ⟨y0, y1, y2⟩ := hB.b.cells
      obtain ⟨f0, f1, f2⟩ := hB.a.frees
      obtain ⟨e0, e1, e2⟩ := hB.b.frees
      simp only at x0 x1 x2 y0 y1 y2
      rcases HK.out with ⟨rfl, hr⟩ | ⟨hc, rfl⟩
      · clear HK
        cases pn
        · obtain rfl : r = z1 := hr
          go_wp2_with fail
          refine (unhide Z1 _).mono ?_
          rintro e w3 ⟨rfl, h3⟩
          go_wp2
          go_ret
          exact ⟨rfl, hB.below.trans (h3.mono hB.below.size)⟩
        · obtain rfl : r = z2 := hr
          go_wp2_with fail
          refine (unhide Z2 _).mono ?_
          rintro e w3 ⟨rfl, h3⟩
          have B2 := below3 (below3 hB.below (Nat.le_refl _) (.bool qn) (.string qg) (.int .i64 qx)) (show w.heap.size ≤ w.heap.size + 1 by omega) (.bool true) (.string pg) (.int .i64 px)
          go_wp2
          go_ret
          exact ⟨rfl, B2.trans (h3.mono B2.size)⟩
      · clear HK
        go_wp2
        go_ret
        exact ⟨rfl, hB.below⟩
end Go.Proofs.YtmnikcnjdeldeaaDoor.rd
