/- A region that draws its order, by a condition that every operation keeps. -/
import Derived.Orders
import Derived.WalkKit
namespace Go.Proofs.YtmnikcnjdeldeaaDoor.rd
open Go.RowKit

theorem ready_mem {md : Region.Mode} {ops : Array Oper} {listed : Array Bool} {i : Nat} (h : i ∈ Region.ready md ops listed) :
    i < ops.size ∧ listed.getD i true = false ∧ ∃ o, ops[i]? = some o ∧ ∀ e ∈ o.after, Region.binds md e = true → listed.getD e.on false = true := by
  unfold Region.ready at h
  rw [List.mem_filter, List.mem_range] at h
  obtain ⟨h1, h2⟩ := h
  simp only [Bool.and_eq_true, Bool.not_eq_true'] at h2
  refine ⟨h1, h2.1, ops[i], Array.getElem?_eq_getElem h1, fun e he hb => ?_⟩
  have h3 := h2.2
  rw [Array.getElem?_eq_getElem h1] at h3
  simp only [Option.map_some, Option.getD_some, Array.all_eq_true'] at h3
  have := h3 e he
  simpa [hb] using this

theorem ready_none {md : Region.Mode} {ops : Array Oper} {listed : Array Bool} (hs : listed.size = ops.size) (h : Region.ready md ops listed = [])
    (hd : ∀ i (hi : i < ops.size), ∀ e ∈ ops[i].after, e.on < i) : ∀ i, i < ops.size → listed.getD i false = true := by
  intro i
  induction i using Nat.strongRecOn with
  | ind i ih =>
    intro hi
    cases hl : listed.getD i false with
    | true => rfl
    | false =>
      exfalso
      have hm : i ∈ Region.ready md ops listed := by
        unfold Region.ready
        rw [List.mem_filter, List.mem_range]
        refine ⟨hi, ?_⟩
        have e1 : listed.getD i true = false := by
          have : i < listed.size := by omega
          simp [this] at hl ⊢
          exact hl
        rw [e1, Array.getElem?_eq_getElem hi]
        simp only [Bool.not_false, Bool.true_and, Option.map_some, Option.getD_some, Array.all_eq_true']
        intro e he
        have := ih e.on (hd i hi e he) (by have := hd i hi e he; omega)
        simp [this]
      rw [h] at hm
      cases hm

/-- The number of those that haven't come up. -/
def left (listed : Array Bool) : Nat := (listed.toList.filter (!·)).length
theorem left_set {listed : Array Bool} {i : Nat} (hi : i < listed.size) (h : listed.getD i true = false) : left (listed.setIfInBounds i true) + 1 = left listed := by
  unfold left
  have hi' : i < listed.toList.length := by simpa using hi
  have e : (listed.setIfInBounds i true).toList = listed.toList.set i true := by simp
  rw [e]
  have h' : listed.toList[i] = false := by
    simp [hi] at h
    simpa using h
  generalize listed.toList = l at *
  clear e h hi
  induction l generalizing i with
  | nil => simp at hi'
  | cons a l ih =>
    cases i with
    | zero =>
      simp only [List.getElem_cons_zero] at h'
      subst h'
      simp
    | succ i =>
      simp only [List.getElem_cons_succ] at h'
      simp only [List.set_cons_succ, List.filter_cons]
      have := ih (i := i) (by simpa using hi') h'
      split <;> (try simp only [List.length_cons]) <;> omega
theorem left_zero {listed : Array Bool} (h : left listed = 0) (i : Nat) : listed.getD i true = true := by
  unfold left at h
  rw [List.length_eq_zero_iff, List.filter_eq_nil_iff] at h
  by_cases hi : i < listed.size
  · have := h listed[i] (by simp)
    simp [hi]
    simpa using this
  · simp [hi]

theorem wpAny_inv {P : Program} {ops : Array Oper} {Q : Exit → Act → World → Prop} (J : Array Bool → Act → World → Prop)
    (hd : ∀ i (hi : i < ops.size), ∀ e ∈ ops[i].after, e.on < i)
    (hstep : ∀ listed a w i, listed.size = ops.size → J listed a w → i ∈ Region.ready .any ops listed → wpOp P ops Q i (J (listed.setIfInBounds i true)) a w)
    (hfin : ∀ listed a w, listed.size = ops.size → J listed a w → (∀ i, i < ops.size → listed.getD i false = true) → Q .normal a w) :
    ∀ (fuel : Nat) (listed : Array Bool) (a : Act) (w : World), listed.size = ops.size → left listed = fuel → J listed a w → wpAny P .any ops Q fuel listed a w := by
  intro fuel
  induction fuel with
  | zero =>
    intro listed a w hs hl hJ
    have hr : Region.ready .any ops listed = [] := by
      cases hx : Region.ready .any ops listed with
      | nil => rfl
      | cons i r =>
        exfalso
        have := (ready_mem (i := i) (by rw [hx]; simp)).2.1
        rw [left_zero hl] at this
        cases this
    exact ⟨hr, hfin listed a w hs hJ (ready_none hs hr hd)⟩
  | succ fuel ih =>
    intro listed a w hs hl hJ
    refine ⟨fun hr => hfin listed a w hs hJ (ready_none hs hr hd), fun i hi => ?_⟩
    obtain ⟨h1, h2, _⟩ := ready_mem hi
    refine wpOp_mono (fun a' w' h => ih _ a' w' (by simpa using hs) ?_ h) (hstep listed a w i hs hJ hi)
    have := left_set (i := i) (by omega) h2
    omega

theorem wp_region_inv {P : Program} {ops : Array Oper} {Q : Exit → Act → World → Prop} {id : Nat} {a : Act} {w : World} (hm : P.follows .mixedOrders = true) (J : Array Bool → Act → World → Prop)
    (h0 : J (Array.replicate ops.size false) a w.drew)
    (hd : ∀ i (hi : i < ops.size), ∀ e ∈ ops[i].after, e.on < i)
    (hstep : ∀ listed a w i, listed.size = ops.size → J listed a w → i ∈ Region.ready .any ops listed → wpOp P ops Q i (J (listed.setIfInBounds i true)) a w)
    (hfin : ∀ listed a w, listed.size = ops.size → J listed a w → (∀ i, i < ops.size → listed.getD i false = true) → Q .normal a w) : (Code.region id ops true).wp P Q a w := by
  refine wp_region_any hm (wpAny_inv J hd hstep hfin _ _ _ _ (by simp) ?_ h0)
  unfold left
  rw [List.filter_eq_self.2 (fun b hb => by simp at hb; simp [hb.2])]
  simp
end Go.Proofs.YtmnikcnjdeldeaaDoor.rd
