/- DiskArms, over the calls' contracts: what it leans on. -/
import Derived.Test.YtbcclolhfogpnaaDoorYd
import Derived.Stop.IfaceNil
namespace Go.Proofs.YtbcclolhfogpnaaDoor.dk
open Go.RowKit Go.Joins mm

theorem neq_same (w : World) (a : Addr) : (binOp .neq 42 (.iface 66 (.pointer (some a))) (.iface 66 (.pointer (some a)))).run Tryd.prog w = .ok (.bool false) w := by
  have hi := infoP
  have hj := infoE
  cases h1 : Tryd.prog.info? 66 with
  | none => rw [h1] at hi; cases hi
  | some i =>
    cases h2 : Tryd.prog.info? 82 with
    | none => rw [h2] at hj; cases hj
    | some j =>
      rw [h1] at hi
      simp only [binOp]
      simp [Op.equal, Op.maxDepth, run_equalIn_iface_ptr_same w 9998 a Tryd.underlying42 Tryd.underlying66 h1 (by simpa using hi) h2]
theorem neq_other (w : World) {a b : Addr} (hne : a ≠ b) (la : ∃ c t, w.heap[a.block]? = some (.cells c t (0, 0))) (lb : ∃ c t, w.heap[b.block]? = some (.cells c t (0, 0))) :
    (binOp .neq 42 (.iface 66 (.pointer (some a))) (.iface 66 (.pointer (some b)))).run Tryd.prog w = .ok (.bool true) w := by
  obtain ⟨ca, ta, ha⟩ := la
  obtain ⟨cb, tb, hb⟩ := lb
  have hi := infoP
  have hj := infoE
  cases h1 : Tryd.prog.info? 66 with
  | none => rw [h1] at hi; cases hi
  | some i =>
    cases h2 : Tryd.prog.info? 82 with
    | none => rw [h2] at hj; cases hj
    | some j =>
      rw [h1] at hi
      rw [h2] at hj
      have hj' : j.size = 1 := by simpa using hj
      simp only [binOp]
      simp [Op.equal, Op.maxDepth, run_equalIn_iface_ptr_other w 9998 Tryd.underlying42 Tryd.underlying66 h1 (by simpa using hi) h2 (by omega) hne ha hb]

/-- Torn nowhere: as it was. -/
theorem tear_none (t : Nat) (l : List UInt8) : tear (-1) t l = l := by
  unfold tear
  apply List.ext_getElem?
  intro i
  rw [List.getElem?_mapIdx]
  cases l[i]? with
  | none => rfl
  | some b =>
    have : mask (-1) t i = 0 := by
      unfold mask
      have : (fun j => bitOn (-1) t (8 * i + j)) = fun _ => false := by funext j; unfold bitOn; simp
      rw [this]; rfl
    simp [this]
theorem crash_all (s : St) (hl : s.file.length ≤ 1099511627776) : sCrash s 1099511627776 (-1) 0 = ⟨s.file, s.file.length, false, 0⟩ := by
  unfold sCrash
  have e : s.file.take s.syn ++ tear (-1) 0 ((s.file.drop s.syn).take (1099511627776 : Int).toNat) = s.file := by
    rw [tear_none, List.take_of_length_le (l := s.file.drop s.syn) (by rw [List.length_drop]; show _ ≤ 1099511627776; omega), List.take_append_drop]
  simp only [e]
/-- Where the law stands: so many acts were done of those that the power lasts. -/
def Arms (most acts : Nat) (s : St) : Prop := acts ≤ most ∧ ((acts < most ∧ s.off = false ∧ s.arm = most - acts) ∨ (acts = most ∧ s.off = true))
/-- A step, of the first three kinds. -/
theorem arms_step {most acts : Nat} {s : St} (h : Arms most acts s) (k : Int) (o : Op) (hk0 : 0 ≤ k) (hk : k < 3) : ∃ s' e, sDo s k o = (s', e) ∧
    ((acts = most ∧ e = 2 ∧ s' = s ∧ s.off = true) ∨
     (acts < most ∧ k = 2 ∧ (o.n < 0 ∨ (s.file.length : Int) < o.n) ∧ e = 1 ∧ s' = s ∧ s.off = false) ∨
     (acts < most ∧ ¬ (k = 2 ∧ (o.n < 0 ∨ (s.file.length : Int) < o.n)) ∧ Arms most (acts + 1) s' ∧ ((acts + 1 < most ∧ e = 0 ∧ s'.off = false) ∨ (acts + 1 = most ∧ e = 2 ∧ s'.off = true)))) := by
  obtain ⟨_, ⟨h1, h2, h3⟩ | ⟨h1, h2⟩⟩ := h
  · have hc : k = 0 ∨ k = 1 ∨ k = 2 := by omega
    have off : ∀ (f : List UInt8) (y : Nat), s.arm = 1 → Arms most (acts + 1) ⟨f, y, true, 0⟩ := fun f y e => ⟨by omega, Or.inr ⟨by omega, rfl⟩⟩
    have on : ∀ (f : List UInt8) (y : Nat), s.arm ≠ 1 → Arms most (acts + 1) ⟨f, y, false, s.arm - 1⟩ := fun f y e => ⟨by omega, Or.inl ⟨by omega, rfl, by show s.arm - 1 = _; omega⟩⟩
    rcases hc with rfl | rfl | rfl
    · show ∃ s' e, sApp s o.data = (s', e) ∧ _
      unfold sApp
      rw [if_neg (by rw [h2]; simp)]
      by_cases q : s.arm = 1
      · rw [if_pos q]; exact ⟨_, 2, rfl, Or.inr (Or.inr ⟨h1, by omega, off _ _ q, Or.inr ⟨by omega, rfl, rfl⟩⟩)⟩
      · rw [if_neg q]; exact ⟨_, 0, rfl, Or.inr (Or.inr ⟨h1, by omega, on _ _ q, Or.inl ⟨by omega, rfl, rfl⟩⟩)⟩
    · show ∃ s' e, sSyn s = (s', e) ∧ _
      unfold sSyn
      rw [if_neg (by rw [h2]; simp)]
      by_cases q : s.arm = 1
      · rw [if_pos q]; exact ⟨_, 2, rfl, Or.inr (Or.inr ⟨h1, by omega, off _ _ q, Or.inr ⟨by omega, rfl, rfl⟩⟩)⟩
      · rw [if_neg q]; exact ⟨_, 0, rfl, Or.inr (Or.inr ⟨h1, by omega, on _ _ q, Or.inl ⟨by omega, rfl, rfl⟩⟩)⟩
    · show ∃ s' e, sCut s o.n = (s', e) ∧ _
      unfold sCut
      rw [if_neg (by rw [h2]; simp)]
      by_cases qn : o.n < 0 ∨ (s.file.length : Int) < o.n
      · rw [if_pos qn]; exact ⟨s, 1, rfl, Or.inr (Or.inl ⟨h1, rfl, qn, rfl, rfl, h2⟩)⟩
      · rw [if_neg qn]
        by_cases q : s.arm = 1
        · rw [if_pos q]; exact ⟨_, 2, rfl, Or.inr (Or.inr ⟨h1, by simp [qn], off _ _ q, Or.inr ⟨by omega, rfl, rfl⟩⟩)⟩
        · rw [if_neg q]; exact ⟨_, 0, rfl, Or.inr (Or.inr ⟨h1, by simp [qn], on _ _ q, Or.inl ⟨by omega, rfl, rfl⟩⟩)⟩
  · refine ⟨s, 2, ?_, Or.inl ⟨h1, rfl, rfl, h2⟩⟩
    have hc : k = 0 ∨ k = 1 ∨ k = 2 := by omega
    rcases hc with rfl | rfl | rfl
    · show sApp s o.data = _; unfold sApp; rw [if_pos h2]
    · show sSyn s = _; unfold sSyn; rw [if_pos h2]
    · show sCut s o.n = _; unfold sCut; rw [if_pos h2]
theorem tot_take (l : List Op) (k : Nat) (o : Op) (h : l[k]? = some o) : tot (l.take (k + 1)) = tot (l.take k) + o.data.length := by
  unfold tot
  rw [List.take_add_one, h, List.map_append, List.sum_append]
  simp
theorem tot_le (l : List Op) (k : Nat) : tot (l.take k) ≤ tot l := by
  have : tot l = tot (l.take k) + tot (l.drop k) := by
    unfold tot
    rw [← List.sum_append, ← List.map_append, List.take_append_drop]
  omega
end Go.Proofs.YtbcclolhfogpnaaDoor.dk
