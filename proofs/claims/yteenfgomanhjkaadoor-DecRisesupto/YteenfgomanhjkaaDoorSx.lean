/- What the two errors' variables hold; how errors are held against each other (for the laws that hold nothing against a reference). -/
import Derived.Test.YteenfgomanhjkaaDoorRz
import Derived.Test.YteenfgomanhjkaaDoorMu
import Derived.Test.YteenfgomanhjkaaDoorFw
import Derived.LaidEql
import Derived.Test.YteenfgomanhjkaaDoorRows
import Derived.Stop.LaidErr
namespace Go.Proofs.YteenfgomanhjkaaDoor.rd
open Go.ChangeShapes Go.RowKit

/-- What the two variables hold: two pointers that differ, to blocks that aren't frozen. -/
structure Sents (w : World) (a b : Addr) : Prop where
  n : w.cell? ⟨0, 0, none⟩ = some (.iface 117 (.pointer (some a)))
  x : w.cell? ⟨1, 0, none⟩ = some (.iface 117 (.pointer (some b)))
  ne : a ≠ b
  la : ∃ c t, w.heap[a.block]? = some (.cells c t (0, 0))
  lb : ∃ c t, w.heap[b.block]? = some (.cells c t (0, 0))
def eNo (a : Addr) : Value := .iface 117 (.pointer (some a))
theorem Sents.keep {w w' : World} {a b : Addr} (h : Sents w a b) (hb : Below w.heap.size w w') : Sents w' a b := by
  obtain ⟨ca, ta, ha⟩ := h.la
  obtain ⟨cb, tb, hc⟩ := h.lb
  exact ⟨keepC hb h.n, keepC hb h.x, h.ne, ⟨ca, ta, (hb.block _ (blk_lt ha)).trans ha⟩, ⟨cb, tb, (hb.block _ (blk_lt hc)).trans hc⟩⟩
theorem Sents.vars {w : World} {a b : Addr} (h : Sents w a b) : Vars w (eNo a) (eNo b) := ⟨h.n, h.x⟩

theorem infoP : (Tryd.prog.info? 117).map (fun i => i.comparable) = some true := by kernel_rfl
theorem infoE : (Tryd.prog.info? 131).map (fun i => i.size) = some 1 := by kernel_rfl

theorem eql_same (w : World) (a : Addr) : (binOp .eql 29 (.iface 117 (.pointer (some a))) (.iface 117 (.pointer (some a)))).run Tryd.prog w = .ok (.bool true) w := by
  have hi := infoP
  have hj := infoE
  cases h1 : Tryd.prog.info? 117 with
  | none => rw [h1] at hi; cases hi
  | some i =>
    cases h2 : Tryd.prog.info? 131 with
    | none => rw [h2] at hj; cases hj
    | some j =>
      rw [h1] at hi
      exact run_eql_iface_ptr_same w a Tryd.underlying29 Tryd.underlying117 h1 (by simpa using hi) h2
theorem eql_other (w : World) {a b : Addr} (hne : a ≠ b) (la : ∃ c t, w.heap[a.block]? = some (.cells c t (0, 0))) (lb : ∃ c t, w.heap[b.block]? = some (.cells c t (0, 0))) :
    (binOp .eql 29 (.iface 117 (.pointer (some a))) (.iface 117 (.pointer (some b)))).run Tryd.prog w = .ok (.bool false) w := by
  obtain ⟨ca, ta, ha⟩ := la
  obtain ⟨cb, tb, hb⟩ := lb
  have hi := infoP
  have hj := infoE
  cases h1 : Tryd.prog.info? 117 with
  | none => rw [h1] at hi; cases hi
  | some i =>
    cases h2 : Tryd.prog.info? 131 with
    | none => rw [h2] at hj; cases hj
    | some j =>
      rw [h1] at hi
      rw [h2] at hj
      have hj' : j.size = 1 := by simpa using hj
      exact run_eql_iface_ptr_other w Tryd.underlying29 Tryd.underlying117 h1 (by simpa using hi) h2 (by omega) hne ha hb

theorem star : "*" ++ "errors.errorString" = "*errors.errorString" := by decide
theorem rowE (u : TypeId) (h : Tryd.prog.typeName? 3 u = some "*errors.errorString") : u = 117 :=
  typeName_ptr_named (nm := "errors.errorString") (by rw [star]; kernel_rfl) (by kernel_rfl) (by decide) u (by rw [star]; exact h)
/-- What a listed error holds, in any program: a pointer, behind it the text, in a block that isn't frozen. -/
theorem sent_any {P : Program} {n nm : String} {text : List UInt8} {r : List (String × DataW Unit)} {W : World} {g : Nat} {ti tp te ts : TypeId} {ms : Array (String × TypeId)} {f : Field}
    (h : laidMet P ((n, .iface nm (.ptr (.agg [.lit (.string text)]))) :: r) W)
    (hg : P.globalNamed n = some g) (ht : (P.globals[g]?).map (·.type) = some ti) (hi : P.underlying ti = some (.interface ms)) (hrow : ∀ u, P.typeName? 3 u = some nm → u = tp)
    (hp : P.underlying tp = some (.pointer te)) (he : P.underlying te = some (.struct #[f])) (hft : f.type = ts) (hfo : f.offset = 0) (hs : P.underlying ts = some .string) (hc : P.cellsOf te = 1) (hcs : P.cellsOf ts = 1) :
    ∃ (a : Addr) (s : ByteArray), W.cell? ⟨g, 0, none⟩ = some (.iface tp (.pointer (some a))) ∧ W.cell? a = some (.string s) ∧ s.data.toList = text ∧ ∃ c t, W.heap[a.block]? = some (.cells c t (0, 0)) := by
  obtain ⟨ps, ⟨g0, t0, cs0, f0, p0, q0, hg0, ht0, hv0, hd0, _, e0⟩, _, hrows⟩ := h
  obtain rfl := Option.some.inj (hg.symm.trans hg0)
  obtain rfl := Option.some.inj (ht.symm.trans ht0)
  subst e0
  obtain ⟨l0⟩ := cs0
  have ok0 : ∀ u v, l0 = [.iface u v] → Value.okWide P W .any 0 u v := fun u v e => by
    subst e
    exact (hrows g 0 (by simp [MemPlace.row])).2 u v (by simpa using World.var?_cell hg0 hv0 0)
  obtain ⟨a, s, rfl, hca, hsa, _, hp0⟩ := errorString_of_trod hi hrow hp he hft hfo hs hc hcs hd0 ok0
  refine ⟨a, s, ?_, hca, hsa, (hrows a.block a.off (by subst hp0; simp [MemPlace.row])).1⟩
  have := World.var?_cell hg hv0 0
  simpa using this
theorem sentinel {W : World} {name : String} {g : Nat} {text : List UInt8} {rest : List (String × DataW Unit)} (hg : Tryd.prog.globalNamed name = some g) (ht : (Tryd.prog.globals[g]?).map (·.type) = some 29)
    (h : laidMet Tryd.prog ((name, .iface "*errors.errorString" (.ptr (.agg [.lit (.string text)]))) :: rest) W) : ∃ (a : Addr) (s : ByteArray), W.cell? ⟨g, 0, none⟩ = some (.iface 117 (.pointer (some a))) ∧ W.cell? a = some (.string s) ∧ s.data.toList = text ∧ ∃ c t, W.heap[a.block]? = some (.cells c t (0, 0)) :=
  sent_any h hg ht Tryd.underlying29 rowE Tryd.underlying117 Tryd.underlying131 rfl rfl Tryd.underlying9 (by kernel_rfl) (by kernel_rfl)

theorem sents_of {W : World} {r1 r2 : List (String × DataW Unit)}
    (h1 : laidMet Tryd.prog (("voyage/api.ErrNumber", Rows.laid_voyage_api_ErrNumber) :: r1) W) (h2 : laidMet Tryd.prog (("voyage/api.ErrExponent", Rows.laid_voyage_api_ErrExponent) :: r2) W) : ∃ a b, Sents W a b := by
  obtain ⟨a, s, hN, ca, ha, la⟩ := sentinel (g := 0) (by kernel_rfl) (by kernel_rfl) h1
  obtain ⟨b, t, hX, cb, hb, lb⟩ := sentinel (g := 1) (by kernel_rfl) (by kernel_rfl) h2
  refine ⟨a, b, hN, hX, ?_, la, lb⟩
  rintro rfl
  rw [ca] at cb
  simp only [Option.some.injEq, Value.string.injEq] at cb
  subst cb
  rw [ha] at hb
  exact absurd hb (by decide)

theorem pow_inv {m n : Nat} (h : (10 : Int) ^ m < 10 ^ n) : m < n := by
  rcases Nat.lt_or_ge m n with q | q
  · exact q
  · have := pow_mono q; omega
theorem sR_bd {p : Dn} (hp : Whole1 p) (S : Nat) (hs : p.dg.size ≤ S) : ((sR p).natAbs : Int) < 10 ^ (S + 19998) := by
  have h1 := valB_lt hp.dig
  have h0 := valB_nonneg hp.dig
  obtain ⟨e0, e1⟩ := hp.exbd
  have h2 : (0 : Int) < 10 ^ (p.ex + 9999).toNat := Int.pow_pos (by omega)
  have h3 := Int.mul_lt_mul_of_pos_right h1 h2
  rw [← Int.pow_add] at h3
  have h4 := pow_mono (show p.dg.size + (p.ex + 9999).toNat ≤ S + 19998 by omega)
  have h5 := Int.mul_nonneg h0 (Int.le_of_lt h2)
  have e : ((sR p).natAbs : Int) = valB p.dg * 10 ^ (p.ex + 9999).toNat := by
    unfold sR
    generalize valB p.dg * 10 ^ (p.ex + 9999).toNat = t at *
    cases p.neg <;> simp <;> omega
  rw [e]
  omega
theorem size_of {r : Dn} (h : Formed r) (K : Nat) (hv : valB r.dg * 10 ^ (r.ex + 9999).toNat < 10 ^ K) : r.dg.size ≤ K := by
  have h1 := h.low
  have h2 : (0 : Int) < 10 ^ (r.ex + 9999).toNat := Int.pow_pos (by omega)
  have h3 : valB r.dg * 1 ≤ valB r.dg * 10 ^ (r.ex + 9999).toNat := Int.mul_le_mul_of_nonneg_left (by omega) (Int.le_of_lt h.valpos)
  have h4 : (10 : Int) ^ (r.dg.size - 1) < 10 ^ K := by omega
  have := pow_inv h4
  omega

/-- What Add answers of two numbers in their one form. -/
theorem add_res (p q : Dn) (eX : Value) (hp : Whole1 p) (hq : Whole1 q) (S : Nat) (sp : p.dg.size ≤ S) (sq : q.dg.size ≤ S) :
    ∃ d ev, boundV (addV p q) eX = (dv d, ev) ∧ Whole1 d ∧ d.dg.size ≤ S + 20000 ∧ ((ev = .nilIface ∧ addV p q = (d, true)) ∨ ev = eX) := by
  rcases h : addV p q with ⟨r, ok⟩
  cases ok with
  | false => exact ⟨zed, eX, rfl, .inl rfl, Nat.zero_le _, .inr rfl⟩
  | true =>
    obtain ⟨h1, h2⟩ := addV_exact h
    refine ⟨r, .nilIface, rfl, h1, ?_, .inl ⟨rfl, rfl⟩⟩
    rcases h1 with rfl | h1
    · exact Nat.zero_le _
    · have b1 := sR_bd hp S sp
      have b2 := sR_bd hq S sq
      have b3 : (10 : Int) ^ (S + 19998) * 10 = 10 ^ (S + 19999) := by rw [← Int.pow_succ]
      have b4 := pow_mono (show S + 19999 ≤ S + 20000 by omega)
      apply size_of h1 (S + 20000)
      have e : valB r.dg * 10 ^ (r.ex + 9999).toNat = ((sR r).natAbs : Int) := by
        have h0 := h1.valpos
        have h5 : (0 : Int) < 10 ^ (r.ex + 9999).toNat := Int.pow_pos (by omega)
        have h6 := Int.mul_pos h0 h5
        unfold sR
        generalize valB r.dg * 10 ^ (r.ex + 9999).toNat = t at *
        cases r.neg <;> simp <;> omega
      rw [e, h2]
      omega
theorem mul_res (p q : Dn) (eX : Value) (hp : Whole1 p) (hq : Whole1 q) (S T : Nat) (sp : p.dg.size ≤ S) (sq : q.dg.size ≤ T) :
    ∃ d ev, boundV (mulV p q) eX = (dv d, ev) ∧ Whole1 d ∧ d.dg.size ≤ S + T + 1 ∧ ((ev = .nilIface ∧ mulV p q = (d, true)) ∨ ev = eX) := by
  rcases h : mulV p q with ⟨r, ok⟩
  cases ok with
  | false => exact ⟨zed, eX, rfl, .inl rfl, Nat.zero_le _, .inr rfl⟩
  | true =>
    have h0 := Int.mul_nonneg (valB_nonneg hp.dig) (valB_nonneg hq.dig)
    obtain ⟨w1, w2⟩ := mulV_exact hp hq h
    refine ⟨r, .nilIface, rfl, w1, ?_, .inl ⟨rfl, rfl⟩⟩
    unfold mulV at h
    have hx := tellV_exact (p.neg != q.neg) (valB p.dg * valB q.dg) (p.ex + q.ex) h0 (by rw [h])
    rw [h] at hx
    simp only at hx
    rcases hx with ⟨h1, _⟩ | ⟨h1, _, h3, h4⟩
    · rw [h1]; exact Nat.zero_le _
    · have l1 := h1.low
      have a1 := valB_lt hp.dig
      have a2 := valB_lt hq.dig
      have a3 := valB_nonneg hp.dig
      have a4 := valB_nonneg hq.dig
      have h5 : (0 : Int) < 10 ^ (r.ex - (p.ex + q.ex)).toNat := Int.pow_pos (by omega)
      have h6 : valB r.dg * 1 ≤ valB r.dg * 10 ^ (r.ex - (p.ex + q.ex)).toNat := Int.mul_le_mul_of_nonneg_left (by omega) (Int.le_of_lt h1.valpos)
      have h7 : valB p.dg * valB q.dg ≤ 10 ^ p.dg.size * 10 ^ q.dg.size := Int.mul_le_mul (by omega) (by omega) a4 (Int.pow_nonneg (by omega))
      rw [← Int.pow_add] at h7
      have h8 := pow_mono (show p.dg.size + q.dg.size ≤ S + T by omega)
      have h9 : (10 : Int) ^ (S + T) < 10 ^ (S + T + 1) := by
        have : (0 : Int) < 10 ^ (S + T) := Int.pow_pos (by omega)
        rw [Int.pow_succ]; omega
      have := pow_inv (show (10 : Int) ^ (r.dg.size - 1) < 10 ^ (S + T + 1) by omega)
      omega

def oneD : Dn := ⟨false, ⟨#[49]⟩, 0⟩
theorem norm_one : norm oneD = oneD := by kernel_rfl
theorem whole_one : Whole1 oneD := by have := norm_formed oneD; rw [norm_one] at this; exact this
theorem of_one : ofN 1 = oneD := by
  obtain ⟨h1, h2, _⟩ := of_exact 1 (by omega) (by omega)
  apply sR_inj h1 whole_one
  rw [h2]
  have e : sR oneD = 1 * (valB oneD.dg * 10 ^ ((0 : Int) + 9999).toNat) := rfl
  have e2 : valB oneD.dg = 1 := by kernel_rfl
  rw [e, e2, show ((0 : Int) + 9999).toNat = 9999 from rfl, Int.one_mul, Int.one_mul]
theorem mul_one {p : Dn} (hp : Whole1 p) : mulV p oneD = (p, true) := by
  have e : mulV p oneD = tellV (p.neg != false) (valB p.dg * valB oneD.dg) (p.ex + 0) := rfl
  have e2 : valB oneD.dg = 1 := by kernel_rfl
  have e3 : (p.neg != false) = p.neg := by cases p.neg <;> rfl
  rw [e, e2, e3, Int.mul_one, Int.add_zero]
  rcases hp with rfl | hp
  · have : valB zed.dg = 0 := rfl
    rw [this]; exact tellV_nought _ _
  · exact oneForm_ok hp
end Go.Proofs.YteenfgomanhjkaaDoor.rd
