/- The landed disk: parts, Crash. -/
import Derived.Test.YtbcclolhfogpnaaDoorDk5
namespace Go.Proofs.YtbcclolhfogpnaaDoor.dk
open Go.RowKit mm

/-- l[lo:len:len] -/
theorem FR.lhm {w : World} {v : Value} {l : List UInt8} (h : FR w v l) (lo : Nat) (hlo : lo ≤ l.length) :
    ∃ ot, (∀ u : World, (Instr.slice 27 v (some (.int .i64 (lo : Int))) (some (.int .i64 (l.length : Int))) (some (.int .i64 (l.length : Int)))).run Tryd.prog u = .ok (.slice ot (l.length - lo) (l.length - lo)) u) ∧
      BY w (.slice ot (l.length - lo) (l.length - lo)) (l.drop lo) ∧ (0 < l.length - lo → ∃ g cap sz, v = .slice (some ⟨g, 0, none⟩) l.length cap ∧ ot = some ⟨g, lo, none⟩ ∧ RB w g l sz) := by
  have hb := h.by
  rcases h with ⟨rfl, rfl⟩ | ⟨g, cap, sz, rfl, h, h1, h2, h3⟩
  · have : lo = 0 := by simpa using hlo
    subst this
    refine ⟨none, fun u => ?_, hb, fun q => by simp at q⟩
    rw [run_slice_lhm (P := Tryd.prog) (ht := undU) (h0 := by omega) (h1 := by omega) (h2 := by omega) (h3 := by simp), size_u]
    rfl
  · refine ⟨if l.length = lo then some ⟨g, 0, none⟩ else some ⟨g, lo, none⟩, fun u => ?_, ?_, fun q => ⟨g, cap, sz, rfl, if_neg (by omega), h⟩⟩
    · rw [run_slice_lhm (P := Tryd.prog) (ht := undU) (h0 := by omega) (h1 := by omega) (h2 := by omega) (h3 := by omega), size_u]
      show Result.ok (sliced (some ⟨g, 0, none⟩) lo l.length l.length 1) u = _
      unfold sliced
      congr 2
      split
      · rfl
      · rw [Option.map_some, Nat.mul_one, add0]
    · refine ⟨by simp, _, l.length - lo, by rw [List.length_drop], by rw [List.length_drop]; omega, by omega, fun q => ?_, fun a ha j u hu => ?_⟩
      · split at q <;> cases q
      · rw [List.getElem?_map, List.getElem?_drop] at hu
        cases hl : l[lo + j]? with
        | none => rw [hl] at hu; cases hu
        | some b =>
          rw [hl] at hu
          cases hu
          obtain ⟨hlt, _⟩ := List.getElem?_eq_some_iff.mp hl
          rw [if_neg (by omega)] at ha
          cases ha
          have e : (⟨g, lo, none⟩ : Addr).add j = ⟨g, lo + j, none⟩ := by unfold Addr.add; split <;> simp_all
          rw [e]
          exact h.cell _ b hl

set_option maxRecDepth 100000 in
set_option maxHeartbeats 1600000 in
theorem parts_any (w : World) (g : Nat) (oa : Option Addr) (n c syn nt : Nat) (m : Int) (b : Bool) (o1 o2 : Option Addr) (h4 : L4 w g (.slice oa n c) (syn : Int) m b)
    (hs1 : ∀ u : World, (Instr.slice 27 (.slice oa n c) none (some (.int .i64 (syn : Int))) (some (.int .i64 (syn : Int)))).run Tryd.prog u = .ok (.slice o1 syn syn) u)
    (hs2 : ∀ u : World, (Instr.slice 27 (.slice oa n c) (some (.int .i64 (syn : Int))) (some (.int .i64 (n : Int))) (some (.int .i64 (n : Int)))).run Tryd.prog u = .ok (.slice o2 nt nt) u) :
    Calls Tryd.prog 31 #[.pointer (some ⟨g, 0, none⟩)] w fun e w' => e = .returned (.tuple #[.slice o1 syn syn, .slice o2 nt nt]) ∧ ∃ q, w' = w.drewN q := by
  have c0 := h4.c0
  have c1 := h4.c1
  clear h4
  go_enter Tryd.func31, Tryd.ntmps31
  go_upto_region 2 with fail
  go_quiet (fail)
  all_goals go_wp2
  all_goals refine bodyPost_ret (results_tmp2 rfl _ _ _) rfl ?_
  all_goals exact ⟨rfl, _, rfl⟩

/-- What is there when the tail is torn. -/
structure AT (w w2 : World) (v0 safe kept : Value) (l1 l2 : List UInt8) : Prop where
  fr : FR w2 safe l1
  by' : BY w2 kept l2
  os : w2.os = w.os
  tape : w2.tape = w.tape
  output : w2.output = w.output
  size : w2.heap.size = w.heap.size
  block : ∀ k, v0.ownBlock ≠ some k → w2.heap[k]? = w.heap[k]?
theorem at_none {w : World} {v0 : Value} {file : List UInt8} {o1 o2 : Option Addr} {syn T nt : Nat} (q : Nat) (hsafe : FR w (.slice o1 syn syn) (file.take syn)) (hkept : BY w (.slice o2 T nt) ((file.drop syn).take T)) :
    AT w (w.drewN q) v0 (.slice o1 syn syn) (.slice o2 T nt) (file.take syn) ((file.drop syn).take T) :=
  ⟨hsafe, hkept, rfl, rfl, rfl, rfl, fun _ _ => rfl⟩
theorem at_turn {w w2 : World} {v0 : Value} {file : List UInt8} {o1 o2 : Option Addr} {syn T nt at_ tn g sz : Nat} (hsyn : syn + T ≤ file.length) (hT : 0 < T) (hv : v0.ownBlock = some g) (h1 : o1 = some ⟨g, 0, none⟩) (h2 : o2 = some ⟨g, syn, none⟩) (hnt : T ≤ nt) (hm : nt ≤ maxLen) (hm2 : syn ≤ maxLen)
    (hr : RB w2 g (tl at_ tn 5 syn T file) sz) (hu : Upd g w w2) : AT w w2 v0 (.slice o1 syn syn) (.slice o2 T nt) (file.take syn) (tear (at_ : Int) tn ((file.drop syn).take T)) := by
  subst h1
  subst h2
  have hl := tl_len at_ tn 5 syn T file hsyn
  have ho : (file.take syn).length = syn := by rw [List.length_take]; omega
  have hT2 : (tear (at_ : Int) tn ((file.drop syn).take T)).length = T := by rw [tear_len, List.length_take, List.length_drop]; omega
  have et : (tl at_ tn 5 syn T file).take syn = file.take syn := by
    unfold tl
    rw [List.take_append_of_le_length (by omega), List.take_of_length_le (by omega)]
  refine ⟨Or.inr ⟨g, syn, sz, by rw [ho], ?_, by omega, hm2, ?_⟩, ⟨by simp, _, nt, by rw [hT2], by omega, hm, (fun q => by cases q), fun a ha j u hu' => ?_⟩, hu.os, hu.tape, hu.output, hu.size, fun k hk => hu.block k (fun q => hk (by rw [hv, q]))⟩
  · have := hr.take syn (by omega)
    rwa [et] at this
  · obtain ⟨_, _, _, _, q⟩ := hr
    omega
  · cases ha
    rw [List.getElem?_map] at hu'
    cases hj : (tear (at_ : Int) tn ((file.drop syn).take T))[j]? with
    | none => rw [hj] at hu'; cases hu'
    | some b =>
      rw [hj] at hu'
      cases hu'
      have e : (⟨g, syn, none⟩ : Addr).add j = ⟨g, syn + j, none⟩ := by unfold Addr.add; split <;> simp_all
      rw [e]
      refine hr.cell _ b ?_
      obtain ⟨hlt, _⟩ := List.getElem?_eq_some_iff.mp hj
      unfold tl
      rw [List.getElem?_append_right (by omega), ho, Nat.add_sub_cancel_left, tk_all, List.getElem?_append_left hlt]
      exact hj
end Go.Proofs.YtbcclolhfogpnaaDoor.dk
