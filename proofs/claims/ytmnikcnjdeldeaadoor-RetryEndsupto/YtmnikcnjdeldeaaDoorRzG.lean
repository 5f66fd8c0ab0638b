/- Several texts in one. -/
import Derived.Test.YtmnikcnjdeldeaaDoorOcG
import Derived.Test.YtmnikcnjdeldeaaDoorAuG
import Derived.Test.YtmnikcnjdeldeaaDoorFsG
import Derived.LaidEql
import Derived.Test.YtmnikcnjdeldeaaDoorRows
import Derived.Stop.LaidErr
/- Sums and products by their values: no program in it. -/
namespace Go.Proofs.YtmnikcnjdeldeaaDoor.rd
open Go.RowKit

theorem Whole1.dig {n : Dn} (h : Whole1 n) : AllDig n.dg := by
  rcases h with rfl | h
  · intro c hc; simp [zed] at hc
  · exact h.dig
theorem oneForm_ok {n : Dn} (h : Formed n) : tellV n.neg (valB n.dg) n.ex = (n, true) := by
  have hn := h.norm_id
  rw [← form_val _ _ _ h.dig]
  have hd : digs n.dg = n.dg := by
    unfold digs
    rw [List.filter_eq_self.2 h.dig, Array.toArray_toList]
  unfold norm at hn
  rw [hd] at hn
  have hp := h.pos
  rcases ho : oneForm n.neg n.dg n.ex with ⟨r, ok⟩
  rw [ho] at hn
  simp only at hn
  subst hn
  cases ok with
  | true => rfl
  | false =>
    exfalso
    unfold oneForm at ho
    split at ho
    · simp at ho
    · split at ho
      · simp only [Prod.mk.injEq, and_true] at ho; rw [← ho] at hp; exact hp rfl
      · split at ho
        · simp only [Prod.mk.injEq, and_true] at ho; rw [← ho] at hp; exact hp rfl
        · simp at ho
/-- A number is what its signed size says. -/
theorem of_sR {n : Dn} (h : Whole1 n) : tellV (decide (sR n < 0)) ((sR n).natAbs : Int) (-9999) = (n, true) := by
  rcases h with rfl | h
  · rw [sR_zed]; exact tellV_nought _ _
  · have h0 := valB_nonneg h.dig
    have h1 := oneForm_ok h
    rw [tellV_at _ _ h0 _ h.e0] at h1
    obtain ⟨s1, s2⟩ := sR_formed h
    have h2 : (0 : Int) ≤ valB n.dg * 10 ^ (n.ex + 9999).toNat := Int.mul_nonneg h0 (Int.pow_nonneg (by omega))
    have e1 : ((sR n).natAbs : Int) = valB n.dg * 10 ^ (n.ex + 9999).toNat := by
      unfold sR
      generalize valB n.dg * 10 ^ (n.ex + 9999).toNat = t at *
      cases n.neg <;> simp <;> omega
    have e2 : decide (sR n < 0) = n.neg := by
      cases hn : n.neg
      · have := s2 hn; simp; omega
      · have := s1 hn; simp; omega
    rw [e1, e2]
    exact h1
theorem sR_inj {p q : Dn} (hp : Whole1 p) (hq : Whole1 q) (h : sR p = sR q) : p = q := by
  have h1 := of_sR hp
  rw [h, of_sR hq] at h1
  exact (congrArg Prod.fst h1).symm
theorem addV_exact {p q r : Dn} (h : addV p q = (r, true)) : Whole1 r ∧ sR r = sR p + sR q := by
  unfold addV at h
  have h0 : (0 : Int) ≤ ((sR p + sR q).natAbs : Int) := by omega
  generalize sR p + sR q = V at *
  have hx := tellV_exact (decide (V < 0)) (V.natAbs : Int) (-9999) h0 (by rw [h])
  rw [h] at hx
  simp only at hx
  rcases hx with ⟨h1, h2⟩ | ⟨h1, h2, h3, h4⟩
  · refine ⟨.inl h1, ?_⟩
    rw [h1, sR_zed]; omega
  · refine ⟨.inr h1, ?_⟩
    unfold sR
    have e : (r.ex + 9999).toNat = (r.ex - -9999).toNat := by congr 1
    rw [e, h4, h2]
    by_cases q : V < 0
    · simp [q]; omega
    · simp [q]; omega
theorem addV_zed {p : Dn} (hp : Whole1 p) : addV p zed = (p, true) := by
  unfold addV
  rw [sR_zed, Int.add_zero]
  exact of_sR hp
theorem mulV_exact {p q r : Dn} (hp : Whole1 p) (hq : Whole1 q) (h : mulV p q = (r, true)) : Whole1 r ∧ sR r * 10 ^ 9999 = sR p * sR q := by
  have h0 := Int.mul_nonneg (valB_nonneg hp.dig) (valB_nonneg hq.dig)
  obtain ⟨p0, p1⟩ := (show -9999 ≤ p.ex ∧ p.ex ≤ 9999 by rcases hp with rfl | hp; (· exact ⟨by decide, by decide⟩); (· exact ⟨hp.e0, hp.e1⟩))
  obtain ⟨q0, q1⟩ := (show -9999 ≤ q.ex ∧ q.ex ≤ 9999 by rcases hq with rfl | hq; (· exact ⟨by decide, by decide⟩); (· exact ⟨hq.e0, hq.e1⟩))
  unfold mulV at h
  have hx := tellV_exact (p.neg != q.neg) (valB p.dg * valB q.dg) (p.ex + q.ex) h0 (by rw [h])
  rw [h] at hx
  simp only at hx
  have hpq : sR p * sR q = (if (p.neg != q.neg) = true then -1 else 1) * (valB p.dg * valB q.dg) * 10 ^ ((p.ex + 9999).toNat + (q.ex + 9999).toNat) := by
    unfold sR
    rw [Int.pow_add]
    generalize (10 : Int) ^ (p.ex + 9999).toNat = s
    generalize (10 : Int) ^ (q.ex + 9999).toNat = t
    cases p.neg <;> cases q.neg <;> simp <;> grind
  rcases hx with ⟨h1, h2⟩ | ⟨h1, h2, h3, h4⟩
  · refine ⟨.inl h1, ?_⟩
    rw [hpq, h1, sR_zed, h2, Int.mul_zero, Int.zero_mul, Int.zero_mul]
  · refine ⟨.inr h1, ?_⟩
    have e0 := h1.e0
    rw [hpq, ← h4]
    unfold sR
    rw [h2]
    have e : (r.ex + 9999).toNat + 9999 = (r.ex - (p.ex + q.ex)).toNat + ((p.ex + 9999).toNat + (q.ex + 9999).toNat) := by omega
    have e2 : (10 : Int) ^ (r.ex + 9999).toNat * 10 ^ 9999 = 10 ^ (r.ex - (p.ex + q.ex)).toNat * 10 ^ ((p.ex + 9999).toNat + (q.ex + 9999).toNat) := by
      rw [← Int.pow_add, ← Int.pow_add, e]
    generalize (10 : Int) ^ 9999 = t at *
    generalize (10 : Int) ^ (r.ex + 9999).toNat = a at *
    generalize (10 : Int) ^ (r.ex - (p.ex + q.ex)).toNat = b at *
    generalize (10 : Int) ^ ((p.ex + 9999).toNat + (q.ex + 9999).toNat) = c at *
    generalize (if (p.neg != q.neg) = true then (-1 : Int) else 1) = s
    have e3 : s * (valB r.dg * a) * t = s * valB r.dg * (a * t) := by grind
    rw [e3, e2]
    grind
theorem mulV_comm (p q : Dn) : mulV p q = mulV q p := by
  unfold mulV
  rw [Int.mul_comm, Int.add_comm]
  congr 1
  cases p.neg <;> cases q.neg <;> rfl
theorem add_assoc {p q c x z l n : Dn} (h1 : addV p q = (x, true)) (h2 : addV q c = (z, true)) (h3 : addV x c = (l, true)) (h4 : addV p z = (n, true)) : l = n := by
  obtain ⟨_, a2⟩ := addV_exact h1
  obtain ⟨_, b2⟩ := addV_exact h2
  obtain ⟨c1, c2⟩ := addV_exact h3
  obtain ⟨d1, d2⟩ := addV_exact h4
  apply sR_inj c1 d1
  rw [c2, d2, a2, b2]
  omega
theorem mul_add {a b c z r p t v : Dn} (ha : Whole1 a) (hb : Whole1 b) (hc : Whole1 c) (h1 : addV b c = (z, true)) (h2 : mulV a z = (r, true)) (h3 : mulV a b = (p, true)) (h4 : mulV a c = (t, true)) (h5 : addV p t = (v, true)) : r = v := by
  obtain ⟨z1, z2⟩ := addV_exact h1
  obtain ⟨r1, r2⟩ := mulV_exact ha z1 h2
  obtain ⟨p1, p2⟩ := mulV_exact ha hb h3
  obtain ⟨t1, t2⟩ := mulV_exact ha hc h4
  obtain ⟨v1, v2⟩ := addV_exact h5
  apply sR_inj r1 v1
  have e : sR r * 10 ^ 9999 = sR v * 10 ^ 9999 := by
    rw [r2, v2, z2, Int.add_mul, p2, t2, Int.mul_add]
  have h1 := scale_lt (sR r) (sR v)
  have h2 := scale_lt (sR v) (sR r)
  rw [e] at h1 h2
  have h3 : ¬ sR r < sR v := fun q => absurd (h1.2 q) (Int.lt_irrefl _)
  have h4 : ¬ sR v < sR r := fun q => absurd (h2.2 q) (Int.lt_irrefl _)
  omega
theorem refCmp_self (p : Dn) (h : Whole1 p) : refCmp p p = 0 := by
  have h1 := refCmp_lt p p h h
  have h2 := refCmp_gt p p h h
  omega
end Go.Proofs.YtmnikcnjdeldeaaDoor.rd

/- What the two errors' variables hold; how errors are held against each other (for the laws that hold nothing against a reference). -/
namespace Go.Proofs.YtmnikcnjdeldeaaDoor.rd
open Go.ChangeShapes Go.RowKit

def eNo (a : Addr) : Value := .iface 141 (.pointer (some a))
theorem infoP : (Tryd.prog.info? 141).map (fun i => i.comparable) = some true := by kernel_rfl
theorem infoE : (Tryd.prog.info? 157).map (fun i => i.size) = some 1 := by kernel_rfl

theorem eql_same (w : World) (a : Addr) : (binOp .eql 68 (.iface 141 (.pointer (some a))) (.iface 141 (.pointer (some a)))).run Tryd.prog w = .ok (.bool true) w := by
  have hi := infoP
  have hj := infoE
  cases h1 : Tryd.prog.info? 141 with
  | none => rw [h1] at hi; cases hi
  | some i =>
    cases h2 : Tryd.prog.info? 157 with
    | none => rw [h2] at hj; cases hj
    | some j =>
      rw [h1] at hi
      exact run_eql_iface_ptr_same w a Tryd.underlying68 Tryd.underlying141 h1 (by simpa using hi) h2
theorem eql_other (w : World) {a b : Addr} (hne : a ≠ b) (la : ∃ c t, w.heap[a.block]? = some (.cells c t (0, 0))) (lb : ∃ c t, w.heap[b.block]? = some (.cells c t (0, 0))) :
    (binOp .eql 68 (.iface 141 (.pointer (some a))) (.iface 141 (.pointer (some b)))).run Tryd.prog w = .ok (.bool false) w := by
  obtain ⟨ca, ta, ha⟩ := la
  obtain ⟨cb, tb, hb⟩ := lb
  have hi := infoP
  have hj := infoE
  cases h1 : Tryd.prog.info? 141 with
  | none => rw [h1] at hi; cases hi
  | some i =>
    cases h2 : Tryd.prog.info? 157 with
    | none => rw [h2] at hj; cases hj
    | some j =>
      rw [h1] at hi
      rw [h2] at hj
      have hj' : j.size = 1 := by simpa using hj
      exact run_eql_iface_ptr_other w Tryd.underlying68 Tryd.underlying141 h1 (by simpa using hi) h2 (by omega) hne ha hb

theorem star : "*" ++ "errors.errorString" = "*errors.errorString" := by decide
theorem rowE (u : TypeId) (h : Tryd.prog.typeName? 3 u = some "*errors.errorString") : u = 141 :=
  typeName_ptr_named (nm := "errors.errorString") (by rw [star]; kernel_rfl) (by kernel_rfl) (by decide) u (by rw [star]; exact h)
/-- What a listed error holds, in any program: a pointer, behind it the text, in a block that isn't frozen. -/
theorem sent_any {P : Program} {n nm : String} {text : List UInt8} {r : List (String × DataW Unit)} {W : World} {g : Nat} {ti tp te ts : TypeId} {ms : Array (String × TypeId)} {f : Field}
    (h : laidMet P ((n, .iface nm (.ptr (.agg [.lit (.string text)]))) :: r) W)
    (hg : P.globalNamed n = some g) (ht : (P.globals[g]?).map (·.type) = some ti) (hi : P.underlying ti = some (.interface ms)) (hrow : ∀ u, P.typeName? 3 u = some nm → u = tp)
    (hp : P.underlying tp = some (.pointer te)) (he : P.underlying te = some (.struct #[f])) (hft : f.type = ts) (hfo : f.offset = 0) (hs : P.underlying ts = some .string) (hc : P.cellsOf te = 1) (hcs : P.cellsOf ts = 1) :
    ∃ (a : Addr) (s : ByteArray), W.cell? ⟨g, 0, none⟩ = some (.iface tp (.pointer (some a))) ∧ W.cell? a = some (.string s) ∧ s.data.toList = text ∧ ∃ c t, W.heap[a.block]? = some (.cells c t (0, 0)) := by
  obtain ⟨ps, ⟨g0, t0, cs0, f0, p0, q0, hg0, ht0, hv0, hd0, _, e0⟩, _, hrows⟩ := h
  obtain rfl := Option.some.inj (hg.symm.trans hg0)
  obtain rfl := Option.some.inj (ht.symm.trans ht0)
  subst e0
  obtain ⟨l0⟩ := cs0
  have ok0 : ∀ u v, l0 = [.iface u v] → Value.okWide P W .any 0 u v := fun u v e => by
    subst e
    exact (hrows g 0 (by simp [MemPlace.row])).2 u v (by simpa using World.var?_cell hg0 hv0 0)
  obtain ⟨a, s, rfl, hca, hsa, _, hp0⟩ := errorString_of_trod hi hrow hp he hft hfo hs hc hcs hd0 ok0
  refine ⟨a, s, ?_, hca, hsa, (hrows a.block a.off (by subst hp0; simp [MemPlace.row])).1⟩
  have := World.var?_cell hg hv0 0
  simpa using this
theorem sentinel {W : World} {name : String} {g : Nat} {text : List UInt8} {rest : List (String × DataW Unit)} (hg : Tryd.prog.globalNamed name = some g) (ht : (Tryd.prog.globals[g]?).map (·.type) = some 68)
    (h : laidMet Tryd.prog ((name, .iface "*errors.errorString" (.ptr (.agg [.lit (.string text)]))) :: rest) W) : ∃ (a : Addr) (s : ByteArray), W.cell? ⟨g, 0, none⟩ = some (.iface 141 (.pointer (some a))) ∧ W.cell? a = some (.string s) ∧ s.data.toList = text ∧ ∃ c t, W.heap[a.block]? = some (.cells c t (0, 0)) :=
  sent_any h hg ht Tryd.underlying68 rowE Tryd.underlying141 Tryd.underlying157 rfl rfl Tryd.underlying9 (by kernel_rfl) (by kernel_rfl)

theorem pow_inv {m n : Nat} (h : (10 : Int) ^ m < 10 ^ n) : m < n := by
  rcases Nat.lt_or_ge m n with q | q
  · exact q
  · have := pow_mono q; omega
theorem sR_bd {p : Dn} (hp : Whole1 p) (S : Nat) (hs : p.dg.size ≤ S) : ((sR p).natAbs : Int) < 10 ^ (S + 19998) := by
  have h1 := valB_lt hp.dig
  have h0 := valB_nonneg hp.dig
  obtain ⟨e0, e1⟩ := hp.exbd
  have h2 : (0 : Int) < 10 ^ (p.ex + 9999).toNat := Int.pow_pos (by omega)
  have h3 := Int.mul_lt_mul_of_pos_right h1 h2
  rw [← Int.pow_add] at h3
  have h4 := pow_mono (show p.dg.size + (p.ex + 9999).toNat ≤ S + 19998 by omega)
  have h5 := Int.mul_nonneg h0 (Int.le_of_lt h2)
  have e : ((sR p).natAbs : Int) = valB p.dg * 10 ^ (p.ex + 9999).toNat := by
    unfold sR
    generalize valB p.dg * 10 ^ (p.ex + 9999).toNat = t at *
    cases p.neg <;> simp <;> omega
  rw [e]
  omega
theorem size_of {r : Dn} (h : Formed r) (K : Nat) (hv : valB r.dg * 10 ^ (r.ex + 9999).toNat < 10 ^ K) : r.dg.size ≤ K := by
  have h1 := h.low
  have h2 : (0 : Int) < 10 ^ (r.ex + 9999).toNat := Int.pow_pos (by omega)
  have h3 : valB r.dg * 1 ≤ valB r.dg * 10 ^ (r.ex + 9999).toNat := Int.mul_le_mul_of_nonneg_left (by omega) (Int.le_of_lt h.valpos)
  have h4 : (10 : Int) ^ (r.dg.size - 1) < 10 ^ K := by omega
  have := pow_inv h4
  omega

/-- What Add answers of two numbers in their one form. -/
theorem add_res (p q : Dn) (eX : Value) (hp : Whole1 p) (hq : Whole1 q) (S : Nat) (sp : p.dg.size ≤ S) (sq : q.dg.size ≤ S) :
    ∃ d ev, boundV (addV p q) eX = (dv d, ev) ∧ Whole1 d ∧ d.dg.size ≤ S + 20000 ∧ ((ev = .nilIface ∧ addV p q = (d, true)) ∨ ev = eX) := by
  rcases h : addV p q with ⟨r, ok⟩
  cases ok with
  | false => exact ⟨zed, eX, rfl, .inl rfl, Nat.zero_le _, .inr rfl⟩
  | true =>
    obtain ⟨h1, h2⟩ := addV_exact h
    refine ⟨r, .nilIface, rfl, h1, ?_, .inl ⟨rfl, rfl⟩⟩
    rcases h1 with rfl | h1
    · exact Nat.zero_le _
    · have b1 := sR_bd hp S sp
      have b2 := sR_bd hq S sq
      have b3 : (10 : Int) ^ (S + 19998) * 10 = 10 ^ (S + 19999) := by rw [← Int.pow_succ]
      have b4 := pow_mono (show S + 19999 ≤ S + 20000 by omega)
      apply size_of h1 (S + 20000)
      have e : valB r.dg * 10 ^ (r.ex + 9999).toNat = ((sR r).natAbs : Int) := by
        have h0 := h1.valpos
        have h5 : (0 : Int) < 10 ^ (r.ex + 9999).toNat := Int.pow_pos (by omega)
        have h6 := Int.mul_pos h0 h5
        unfold sR
        generalize valB r.dg * 10 ^ (r.ex + 9999).toNat = t at *
        cases r.neg <;> simp <;> omega
      rw [e, h2]
      omega
theorem mul_res (p q : Dn) (eX : Value) (hp : Whole1 p) (hq : Whole1 q) (S T : Nat) (sp : p.dg.size ≤ S) (sq : q.dg.size ≤ T) :
    ∃ d ev, boundV (mulV p q) eX = (dv d, ev) ∧ Whole1 d ∧ d.dg.size ≤ S + T + 1 ∧ ((ev = .nilIface ∧ mulV p q = (d, true)) ∨ ev = eX) := by
  rcases h : mulV p q with ⟨r, ok⟩
  cases ok with
  | false => exact ⟨zed, eX, rfl, .inl rfl, Nat.zero_le _, .inr rfl⟩
  | true =>
    have h0 := Int.mul_nonneg (valB_nonneg hp.dig) (valB_nonneg hq.dig)
    obtain ⟨w1, w2⟩ := mulV_exact hp hq h
    refine ⟨r, .nilIface, rfl, w1, ?_, .inl ⟨rfl, rfl⟩⟩
    unfold mulV at h
    have hx := tellV_exact (p.neg != q.neg) (valB p.dg * valB q.dg) (p.ex + q.ex) h0 (by rw [h])
    rw [h] at hx
    simp only at hx
    rcases hx with ⟨h1, _⟩ | ⟨h1, _, h3, h4⟩
    · rw [h1]; exact Nat.zero_le _
    · have l1 := h1.low
      have a1 := valB_lt hp.dig
      have a2 := valB_lt hq.dig
      have a3 := valB_nonneg hp.dig
      have a4 := valB_nonneg hq.dig
      have h5 : (0 : Int) < 10 ^ (r.ex - (p.ex + q.ex)).toNat := Int.pow_pos (by omega)
      have h6 : valB r.dg * 1 ≤ valB r.dg * 10 ^ (r.ex - (p.ex + q.ex)).toNat := Int.mul_le_mul_of_nonneg_left (by omega) (Int.le_of_lt h1.valpos)
      have h7 : valB p.dg * valB q.dg ≤ 10 ^ p.dg.size * 10 ^ q.dg.size := Int.mul_le_mul (by omega) (by omega) a4 (Int.pow_nonneg (by omega))
      rw [← Int.pow_add] at h7
      have h8 := pow_mono (show p.dg.size + q.dg.size ≤ S + T by omega)
      have h9 : (10 : Int) ^ (S + T) < 10 ^ (S + T + 1) := by
        have : (0 : Int) < 10 ^ (S + T) := Int.pow_pos (by omega)
        rw [Int.pow_succ]; omega
      have := pow_inv (show (10 : Int) ^ (r.dg.size - 1) < 10 ^ (S + T + 1) by omega)
      omega

def oneD : Dn := ⟨false, ⟨#[49]⟩, 0⟩
theorem norm_one : norm oneD = oneD := by kernel_rfl
theorem whole_one : Whole1 oneD := by have := norm_formed oneD; rw [norm_one] at this; exact this
theorem of_one : ofN 1 = oneD := by
  obtain ⟨h1, h2, _⟩ := of_exact 1 (by omega) (by omega)
  apply sR_inj h1 whole_one
  rw [h2]
  have e : sR oneD = 1 * (valB oneD.dg * 10 ^ ((0 : Int) + 9999).toNat) := rfl
  have e2 : valB oneD.dg = 1 := by kernel_rfl
  rw [e, e2, show ((0 : Int) + 9999).toNat = 9999 from rfl, Int.one_mul, Int.one_mul]
theorem mul_one {p : Dn} (hp : Whole1 p) : mulV p oneD = (p, true) := by
  have e : mulV p oneD = tellV (p.neg != false) (valB p.dg * valB oneD.dg) (p.ex + 0) := rfl
  have e2 : valB oneD.dg = 1 := by kernel_rfl
  have e3 : (p.neg != false) = p.neg := by cases p.neg <;> rfl
  rw [e, e2, e3, Int.mul_one, Int.add_zero]
  rcases hp with rfl | hp
  · have : valB zed.dg = 0 := rfl
    rw [this]; exact tellV_nought _ _
  · exact oneForm_ok hp
end Go.Proofs.YtmnikcnjdeldeaaDoor.rd
