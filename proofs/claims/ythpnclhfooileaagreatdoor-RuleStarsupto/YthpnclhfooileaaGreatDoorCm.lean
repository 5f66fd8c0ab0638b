/- How two numbers in their one form stand to each other, told in two ways: no program in it. -/
import Derived.Test.YthpnclhfooileaaGreatDoorEqG
import Derived.Lib.Bytealg
namespace Go.Proofs.YthpnclhfooileaaGreatDoor.rd
open Go.RowKit

/-- Two rows of one length, the greatest place first. -/
def cmpN : List Int → List Int → Int
  | a :: x, b :: y => if a < b then -1 else if b < a then 1 else cmpN x y
  | _, _ => 0
/-- Two lists of digits, the least first. -/
def sizeN (a b : List Int) : Int :=
  if (cutN a).length < (cutN b).length then -1 else if (cutN b).length < (cutN a).length then 1 else cmpN (cutN a).reverse (cutN b).reverse
def linedN (n : Dn) (e : Int) : List Int := List.replicate (n.ex - e).toNat 0 ++ cutN (dl n.dg 0)
def lowerN (p q : Dn) : Int := if p.dg.size = 0 then q.ex else if q.dg.size = 0 ∨ p.ex < q.ex then p.ex else q.ex
def signN (n : Dn) : Int := if n.dg.size = 0 then 0 else if n.neg then -1 else 1
def topN (n : Dn) : Int := n.dg.size + n.ex
def cmpS (p q : Dn) : Int := if topN p < topN q then -1 else if topN q < topN p then 1 else Lib.compareBytes p.dg.data.toList q.dg.data.toList
def decCmp (p q : Dn) : Int := if signN p < signN q then -1 else if signN q < signN p then 1 else if p.neg then cmpS q p else cmpS p q
def refCmp (p q : Dn) : Int := if signN p < signN q then -1 else if signN q < signN p then 1 else signN p * sizeN (linedN p (lowerN p q)) (linedN q (lowerN p q))

/-- A number in its one form that isn't nought. -/
structure Formed (n : Dn) : Prop where
  dig : AllDig n.dg
  ne : n.dg.data.toList ≠ []
  hd : ∀ c, n.dg.data.toList.head? = some c → c ≠ 48
  la : ∀ c, n.dg.data.toList.getLast? = some c → c ≠ 48
  e0 : -9999 ≤ n.ex
  e1 : n.ex ≤ 9999

theorem head_dropW (l : List UInt8) (c : UInt8) (h : (l.dropWhile (· == 48)).head? = some c) : c ≠ 48 := by
  intro e
  subst e
  induction l with
  | nil => simp at h
  | cons a r ih =>
    rw [List.dropWhile_cons] at h
    split at h
    · exact ih h
    · rename_i hn
      simp at h
      subst h
      simp at hn

theorem oneForm_formed (neg : Bool) (s : ByteArray) (ex : Int) (hd : AllDig s) : (oneForm neg s ex).1 = zed ∨ Formed (oneForm neg s ex).1 := by
  have good := oneForm_good neg s ex hd
  unfold oneForm at good ⊢
  by_cases h1 : (trimR (trimL s)).size = 0
  · rw [if_pos h1]; exact .inl rfl
  · rw [if_neg h1] at good ⊢
    by_cases h2 : 9999 < ex
    · rw [if_pos h2]; exact .inl rfl
    · rw [if_neg h2] at good ⊢
      by_cases h3 : ex + ((trimL s).size - (trimR (trimL s)).size) < -9999 ∨ 9999 < ex + ((trimL s).size - (trimR (trimL s)).size)
      · rw [if_pos h3]; exact .inl rfl
      · rw [if_neg h3] at good ⊢
        refine .inr ⟨good.2.2.2, ?_, ?_, ?_, good.2.1, good.2.2.1⟩
        · intro e
          apply h1
          have : (trimR (trimL s)).data.toList.length = (trimR (trimL s)).size := by rw [Array.length_toList]; rfl
          rw [← this]
          simp only at e
          rw [e]; rfl
        · intro c hc
          simp only at hc
          have e1 : (trimR (trimL s)).data.toList = (((s.data.toList.dropWhile (· == 48)).reverse).dropWhile (· == 48)).reverse := rfl
          rw [e1] at hc
          have pre := List.reverse_prefix.2 (List.dropWhile_suffix (l := (s.data.toList.dropWhile (· == 48)).reverse) (fun x : UInt8 => x == 48))
          rw [List.reverse_reverse] at pre
          obtain ⟨t, ht⟩ := pre
          refine head_dropW s.data.toList c ?_
          rw [← ht, List.head?_append, hc]
          rfl
        · intro c hc
          simp only at hc
          have e1 : (trimR (trimL s)).data.toList = (((s.data.toList.dropWhile (· == 48)).reverse).dropWhile (· == 48)).reverse := rfl
          rw [e1, List.getLast?_reverse] at hc
          exact head_dropW _ c hc
theorem norm_formed (d : Dn) : norm d = zed ∨ Formed (norm d) := oneForm_formed _ _ _ (digs_dig _)

theorem Formed.list {n : Dn} (h : Formed n) : cutN (dl n.dg 0) = (n.dg.data.toList.map fz).reverse := by
  rw [dl_fz, List.filter_eq_self.2 h.dig, cutN_fz]
  have hh := h.hd
  cases hx : n.dg.data.toList with
  | nil => rfl
  | cons a r =>
    rw [hx] at hh
    have : ¬ (a == 48) = true := by simpa using hh a rfl
    rw [List.dropWhile_cons, if_neg this]

theorem fz_pos (c : UInt8) (hd : nu.dig c = true) (h : c ≠ 48) : 0 < fz c := by
  have hc : 48 ≤ c.toNat ∧ c.toNat ≤ 57 := by simpa [nu.dig] using hd
  have : c.toNat ≠ 48 := fun e => h (UInt8.toNat_inj.1 (by simpa using e))
  unfold fz; omega
theorem fz_lt (a b : UInt8) : (fz a < fz b) ↔ a < b := by
  rw [UInt8.lt_iff_toNat_lt]; unfold fz; omega

theorem Formed.lined {n : Dn} (h : Formed n) (e : Int) : (cutN (linedN n e)).reverse = n.dg.data.toList.map fz ++ List.replicate (n.ex - e).toNat 0 ∧ (cutN (linedN n e)).length = n.dg.size + (n.ex - e).toNat := by
  have hl : (linedN n e).reverse = n.dg.data.toList.map fz ++ List.replicate (n.ex - e).toNat 0 := by
    unfold linedN; rw [h.list]; simp
  have hz : n.dg.data.toList.length = n.dg.size := by rw [Array.length_toList]; rfl
  have hc : (cutN (linedN n e)).reverse = (linedN n e).reverse := by
    unfold cutN
    rw [List.reverse_reverse, hl]
    have hh := h.hd
    have hdg := h.dig
    have hne := h.ne
    unfold AllDig at hdg
    cases hx : n.dg.data.toList with
    | nil => exact absurd hx hne
    | cons a r =>
      rw [hx] at hh hdg
      have h1 := fz_pos a (hdg a (by simp)) (hh a rfl)
      rw [List.map_cons, List.cons_append, List.dropWhile_cons, if_neg (by simp; omega)]
  refine ⟨hc.trans hl, ?_⟩
  rw [← List.length_reverse, hc, hl, List.length_append, List.length_map, List.length_replicate, hz]

theorem cmpN_same (k : Nat) : cmpN (List.replicate k 0) (List.replicate k 0) = 0 := by
  induction k with
  | zero => rfl
  | succ k ih => rw [List.replicate_succ]; simp [cmpN, ih]
theorem last_tail {a : UInt8} {r : List UInt8} (h : ∀ c, (a :: r).getLast? = some c → c ≠ 48) : ∀ c, r.getLast? = some c → c ≠ 48 := by
  intro c hc
  cases r with
  | nil => simp at hc
  | cons b t => exact h c (by rw [List.getLast?_cons_cons]; exact hc)

theorem cmpN_low (q : List UInt8) (k m : Nat) (hk : k = q.length + m) (hd : ∀ c ∈ q, nu.dig c = true) (hne : q ≠ []) (hl : ∀ c, q.getLast? = some c → c ≠ 48) :
    cmpN (List.replicate k 0) (q.map fz ++ List.replicate m 0) = -1 ∧ cmpN (q.map fz ++ List.replicate m 0) (List.replicate k 0) = 1 := by
  induction q generalizing k with
  | nil => exact absurd rfl hne
  | cons b r ih =>
    obtain ⟨j, rfl⟩ : ∃ j, k = j + 1 := ⟨k - 1, by simp at hk; omega⟩
    rw [List.replicate_succ, List.map_cons, List.cons_append]
    by_cases hb : b = 48
    · have hr : r ≠ [] := by
        intro e; subst e
        exact hl b rfl hb
      have h0 : fz b = 0 := by subst hb; rfl
      have := ih j (by simp at hk; omega) (fun c hc => hd c (by simp [hc])) hr (last_tail hl)
      simp [cmpN, h0, this]
    · have h1 := fz_pos b (hd b (by simp)) hb
      have h2 : ¬ fz b < 0 := by omega
      simp [cmpN, h1, h2]

theorem cmp_pad (p q : List UInt8) (k m : Nat) (hk : p.length + k = q.length + m) (dp : ∀ c ∈ p, nu.dig c = true) (dq : ∀ c ∈ q, nu.dig c = true)
    (lp : ∀ c, p.getLast? = some c → c ≠ 48) (lq : ∀ c, q.getLast? = some c → c ≠ 48) : cmpN (p.map fz ++ List.replicate k 0) (q.map fz ++ List.replicate m 0) = Lib.compareBytes p q := by
  induction p generalizing q with
  | nil =>
    cases q with
    | nil => simp at hk; subst hk; simp [cmpN_same, Lib.compareBytes]
    | cons b r =>
      have := (cmpN_low (b :: r) k m (by simpa using hk) dq (by simp) lq).1
      rw [List.map_nil, List.nil_append, this]; simp [Lib.compareBytes]
  | cons a p' ih =>
    cases q with
    | nil =>
      have := (cmpN_low (a :: p') m k (by simpa using hk.symm) dp (by simp) lp).2
      rw [List.map_nil, List.nil_append, this]; simp [Lib.compareBytes]
    | cons b r =>
      have := ih r (by simp at hk; omega) (fun c hc => dp c (by simp [hc])) (fun c hc => dq c (by simp [hc])) (last_tail lp) (last_tail lq)
      simp only [List.map_cons, List.cons_append, cmpN, Lib.compareBytes, fz_lt, this]

theorem cb_flip (a b : List UInt8) : Lib.compareBytes a b = - Lib.compareBytes b a := by
  induction a generalizing b with
  | nil => cases b <;> simp [Lib.compareBytes]
  | cons x r ih =>
    cases b with
    | nil => simp [Lib.compareBytes]
    | cons y t =>
      simp only [Lib.compareBytes]
      by_cases h1 : x < y
      · have h2 : ¬ y < x := by rw [UInt8.lt_iff_toNat_lt] at *; omega
        simp [h1, h2]
      · by_cases h2 : y < x
        · simp [h1, h2]
        · simp [h1, h2]; exact ih t
theorem cb_same (a : List UInt8) : Lib.compareBytes a a = 0 := by
  induction a with
  | nil => rfl
  | cons x r ih =>
    have : ¬ x < x := by rw [UInt8.lt_iff_toNat_lt]; omega
    simp [Lib.compareBytes, this, ih]
theorem cmpS_flip (p q : Dn) : cmpS p q = - cmpS q p := by
  unfold cmpS
  by_cases h1 : topN p < topN q
  · rw [if_pos h1, if_neg (by omega), if_pos h1]
  · by_cases h2 : topN q < topN p
    · rw [if_neg h1, if_pos h2, if_pos h2]; rfl
    · rw [if_neg h1, if_neg h2, if_neg h2, if_neg h1]; exact cb_flip _ _

theorem size_eq (p q : Dn) (hp : Formed p) (hq : Formed q) (e : Int) (h1 : e ≤ p.ex) (h2 : e ≤ q.ex) : sizeN (linedN p e) (linedN q e) = cmpS p q := by
  obtain ⟨p1, p2⟩ := hp.lined e
  obtain ⟨q1, q2⟩ := hq.lined e
  have zp : p.dg.data.toList.length = p.dg.size := by rw [Array.length_toList]; rfl
  have zq : q.dg.data.toList.length = q.dg.size := by rw [Array.length_toList]; rfl
  unfold sizeN cmpS topN
  rw [p2, q2, p1, q1]
  by_cases a1 : (p.dg.size : Int) + p.ex < q.dg.size + q.ex
  · rw [if_pos (by omega), if_pos a1]
  · by_cases a2 : (q.dg.size : Int) + q.ex < p.dg.size + p.ex
    · rw [if_neg (by omega), if_pos (by omega), if_neg a1, if_pos a2]
    · rw [if_neg (by omega), if_neg (by omega), if_neg a1, if_neg a2]
      exact cmp_pad _ _ _ _ (by omega) hp.dig hq.dig hp.la hq.la

theorem Formed.pos {n : Dn} (h : Formed n) : n.dg.size ≠ 0 := by
  intro e
  have zp : n.dg.data.toList.length = n.dg.size := by rw [Array.length_toList]; rfl
  exact h.ne (List.eq_nil_of_length_eq_zero (by omega))
theorem lower_le (p q : Dn) (hp : p.dg.size ≠ 0) (hq : q.dg.size ≠ 0) : lowerN p q ≤ p.ex ∧ lowerN p q ≤ q.ex := by
  unfold lowerN
  rw [if_neg hp]
  by_cases h : q.dg.size = 0 ∨ p.ex < q.ex
  · rw [if_pos h]; omega
  · rw [if_neg h]; omega

def Whole1 (n : Dn) : Prop := n = zed ∨ Formed n
theorem sign_zed : signN zed = 0 := rfl
theorem sign_formed {n : Dn} (h : Formed n) : signN n = if n.neg then -1 else 1 := by unfold signN; rw [if_neg h.pos]

theorem cmp_eq (p q : Dn) (hp : Whole1 p) (hq : Whole1 q) : decCmp p q = refCmp p q := by
  unfold decCmp refCmp
  by_cases h1 : signN p < signN q
  · rw [if_pos h1, if_pos h1]
  · by_cases h2 : signN q < signN p
    · rw [if_neg h1, if_pos h2, if_neg h1, if_pos h2]
    · rw [if_neg h1, if_neg h2, if_neg h1, if_neg h2]
      rcases hp with rfl | fp
      · rcases hq with rfl | fq
        · rw [sign_zed]
          show cmpS zed zed = _
          simp [cmpS, cb_same]
        · exfalso
          rw [sign_zed, sign_formed fq] at h1 h2
          by_cases hn : q.neg = true <;> simp [hn] at h1 h2
      · rcases hq with rfl | fq
        · exfalso
          rw [sign_zed, sign_formed fp] at h1 h2
          by_cases hn : p.neg = true <;> simp [hn] at h1 h2
        · obtain ⟨l1, l2⟩ := lower_le p q fp.pos fq.pos
          rw [size_eq p q fp fq _ l1 l2, sign_formed fp]
          cases p.neg
          · simp
          · simp; rw [cmpS_flip]
theorem decCmp_flip (p q : Dn) (hp : Whole1 p) (hq : Whole1 q) : decCmp p q = - decCmp q p := by
  unfold decCmp
  by_cases h1 : signN p < signN q
  · rw [if_pos h1, if_neg (by omega), if_pos h1]
  · by_cases h2 : signN q < signN p
    · rw [if_neg h1, if_pos h2, if_pos h2]; rfl
    · rw [if_neg h1, if_neg h2, if_neg h2, if_neg h1]
      rcases hp with rfl | fp
      · rcases hq with rfl | fq
        · show cmpS zed zed = - cmpS zed zed
          simp [cmpS, cb_same]
        · exfalso
          rw [sign_zed, sign_formed fq] at h1 h2
          by_cases hn : q.neg = true <;> simp [hn] at h1 h2
      · rcases hq with rfl | fq
        · exfalso
          rw [sign_zed, sign_formed fp] at h1 h2
          by_cases hn : p.neg = true <;> simp [hn] at h1 h2
        · rw [sign_formed fp, sign_formed fq] at h1 h2
          have e : p.neg = q.neg := by
            cases hpn : p.neg <;> cases hqn : q.neg <;> simp [hpn, hqn] at h1 h2 ⊢
          rw [e]
          cases q.neg
          · simp only [Bool.false_eq_true, if_false]; exact cmpS_flip p q
          · simp only [if_true]; exact cmpS_flip q p
end Go.Proofs.YthpnclhfooileaaGreatDoor.rd
