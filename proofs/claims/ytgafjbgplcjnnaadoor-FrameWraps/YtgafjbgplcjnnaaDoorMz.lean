/- Lists of lists of bytes in memory, as an argument is read. -/
import Derived.Test.YtgafjbgplcjnnaaDoorMy
namespace Go.Proofs.YtgafjbgplcjnnaaDoor.mm
open Go.RowKit

/-- A list of lists of bytes in memory. -/
def BYS (w : World) (v : Value) (ls : List (List UInt8)) : Prop :=
  ∃ vs : List Value, vs.length = ls.length ∧ SV w v ls.length 1 vs ∧ ∀ (j : Nat) (x : Value) (l : List UInt8), vs[j]? = some x → ls[j]? = some l → BY w x l

section
variable {H : Type} {enc : TypeId × Value → H} {P : Program} {W : World} {fuel : Nat} {cs : List Value} {x : DataW H × List MemPlace}
theorem lists_of {t e f : TypeId} (ht : P.underlying t = some (.slice e)) (hc : P.cellsOf e = 1) (he : P.underlying e = some (.slice f)) (hf : P.underlying f = some (.int .u8)) (hcf : P.cellsOf f = 1) (h : DataW.trod enc P W 0 (fun _ => true) true fuel t cs = some x) :
    ∃ (v : Value) (l : List (List UInt8)), cs = [v] ∧ BYS W v l ∧ l.length ≤ Rows.uptoBulk x.1 ∧ ∀ b ∈ l, b.length ≤ Rows.uptoBulk x.1 := by
  obtain ⟨v, xs, rfl, h1, h2, h3⟩ := slice1_of ht hc h (fun v => ∃ l : List UInt8, BY W v l ∧ l.length ≤ Rows.uptoBulk x.1) (fun n v d pl q1 q2 => by
    obtain ⟨v', l, e1, h1, h2⟩ := bytes_of he hf hcf q1
    simp only [List.cons.injEq, and_true] at e1
    subst e1
    exact ⟨l, h1, Nat.le_trans h2 q2⟩)
  obtain ⟨ls, hl, hb, hm⟩ : ∃ ls : List (List UInt8), xs.length = ls.length ∧ (∀ (j : Nat) (y : Value) (l : List UInt8), xs[j]? = some y → ls[j]? = some l → BY W y l) ∧ ∀ b ∈ ls, b.length ≤ Rows.uptoBulk x.1 := by
    clear h1 h2
    induction xs with
    | nil => exact ⟨[], rfl, fun j y l q => by simp at q, fun b hb => by cases hb⟩
    | cons y r ih =>
      obtain ⟨l, q1, q2⟩ := h3 y (List.mem_cons_self ..)
      obtain ⟨ls, i1, i2, i3⟩ := ih (fun z hz => h3 z (List.mem_cons_of_mem _ hz))
      refine ⟨l :: ls, by simp [i1], fun j z m hz hm => ?_, fun b hb => ?_⟩
      · match j with
        | 0 =>
          simp only [List.getElem?_cons_zero, Option.some.injEq] at hz hm
          subst hz hm
          exact q1
        | j + 1 =>
          simp only [List.getElem?_cons_succ] at hz hm
          exact i2 j z m hz hm
      · rcases List.mem_cons.mp hb with e | e
        · subst e; exact q2
        · exact i3 b e
  refine ⟨v, ls, rfl, ⟨xs, hl, ?_, hb⟩, by omega, hm⟩
  rw [← hl]
  exact h1
end
end Go.Proofs.YtgafjbgplcjnnaaDoor.mm
