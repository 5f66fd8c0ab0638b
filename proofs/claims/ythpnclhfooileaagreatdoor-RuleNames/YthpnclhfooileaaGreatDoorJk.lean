/- Rows of texts that a call owns: append of one, in its row or in a new one. -/
import Derived.Test.YthpnclhfooileaaGreatDoorJi
import Derived.ArgAppend
import Derived.OwnWalk
namespace Go.Proofs.YthpnclhfooileaaGreatDoor.ru
open Go.RowKit Go.Joins

def vs (c : ByteArray) : Value := .string c
theorem infoS : (Tryz.prog.info? 9).map (fun i => (i.zero, i.size, i.bytes)) = some (some (.string ⟨#[]⟩), 1, 16) := by kernel_rfl
/-- Texts in a row of the call's own. -/
def OS (w : World) (B : Nat) (v : Value) (l : List ByteArray) : Prop := w.ownsRow B 9 1 v l.length (l.map vs)
theorem OS.mono {w : World} {B B' : Nat} {v : Value} {l : List ByteArray} (h : OS w B v l) (hB : B' ≤ B) : OS w B' v l := by
  obtain ⟨hl, ⟨rfl, h0⟩ | ⟨g, cap, cur, rfl, hb', r⟩⟩ := h
  · exact ⟨hl, Or.inl ⟨rfl, h0⟩⟩
  · exact ⟨hl, Or.inr ⟨g, cap, cur, rfl, by omega, r⟩⟩
theorem OS.cells {w : World} {B : Nat} {g n cap : Nat} {l : List ByteArray} (h : OS w B (.slice (some ⟨g, 0, none⟩) n cap) l) (j : Nat) (hj : j < l.length) : w.cell? ⟨g, j, none⟩ = some (.string l[j]) := by
  obtain ⟨hl, ⟨h1, h0⟩ | ⟨g', cap', cur, h1, hb, hg, hc, hm, hs, ht⟩⟩ := h
  · cases h1
  · cases h1
    rw [blk_cell hg]
    have h1 : (cur.toList.take (l.length * 1))[j]? = (l.map vs)[j]? := by rw [ht]
    rw [List.getElem?_take, if_pos (by omega), List.getElem?_map, List.getElem?_eq_getElem hj] at h1
    simpa [vs] using h1
theorem OS.free {w : World} {B : Nat} {g n cap : Nat} {l : List ByteArray} (h : OS w B (.slice (some ⟨g, 0, none⟩) n cap) l) (j : Nat) : w.frozen? ⟨g, j, none⟩ = false := by
  obtain ⟨hl, ⟨h1, h0⟩ | ⟨g', cap', cur, h1, hb, hg, hc, hm, hs, ht⟩⟩ := h
  · cases h1
  · cases h1; exact blk_free hg j
theorem OS.form {w : World} {B : Nat} {v : Value} {l : List ByteArray} (h : OS w B v l) (hl : l ≠ []) : ∃ g cap, v = .slice (some ⟨g, 0, none⟩) l.length cap ∧ B ≤ g ∧ g < w.heap.size := by
  obtain ⟨_, ⟨rfl, h0⟩ | ⟨g, cap, cur, rfl, hb, hg, _⟩⟩ := h
  · exact absurd (List.eq_nil_of_length_eq_zero h0) hl
  · refine ⟨g, cap, rfl, hb, ?_⟩
    rcases Nat.lt_or_ge g w.heap.size with q | q
    · exact q
    · rw [Array.getElem?_eq_none q] at hg; cases hg
theorem OS.move {w w' : World} {B g n cap : Nat} {l : List ByteArray} (h : OS w B (.slice (some ⟨g, 0, none⟩) n cap) l) (e : w'.heap[g]? = w.heap[g]?) : OS w' B (.slice (some ⟨g, 0, none⟩) n cap) l := by
  obtain ⟨hl, ⟨h1, h0⟩ | ⟨g', cap', cur, h1, hb, hg, r⟩⟩ := h
  · cases h1
  · cases h1; exact ⟨hl, Or.inr ⟨g, cap, cur, rfl, hb, e.trans hg, r⟩⟩
theorem OS.set {w : World} {B g n cap : Nat} {l : List ByteArray} (h : OS w B (.slice (some ⟨g, 0, none⟩) n cap) l) (j : Nat) (x : ByteArray) : OS (w.setCell ⟨g, j, none⟩ (.string x)) B (.slice (some ⟨g, 0, none⟩) n cap) (l.set j x) := by
  obtain ⟨hl, ⟨h1, h0⟩ | ⟨g', cap', cur, h1, hb, hg, hc, hm, hs, ht⟩⟩ := h
  · cases h1
  · cases h1
    refine ⟨by simp, Or.inr ⟨g, cap, cur.setIfInBounds j (.string x), by rw [List.length_set], hb, blk_set hg j _, by rw [List.length_set]; exact hc, hm, by simpa using hs, ?_⟩⟩
    rw [Array.toList_setIfInBounds, List.length_set, List.take_set, ht, List.map_set]
    rfl
/-- Where a list that has grown by one lies. -/
def Loc (w w' : World) (v v' : Value) (n : Nat) : Prop :=
  (∃ g cap, v = .slice (some ⟨g, 0, none⟩) n cap ∧ v' = .slice (some ⟨g, 0, none⟩) (n + 1) cap ∧ w.grownBy w' (some g)) ∨ (w.grownBy w' none ∧ ∀ q, v'.ownBlock = some q → w.heap.size ≤ q)
/-- append of one text: in its row, where there is room; else in a new one, and then all that was there stays. -/
theorem run_append_text (w : World) (ty B : Nat) (v : Value) (l : List ByteArray) (b : ByteArray) (ad : Addr) (c : Nat) (ho : OS w B v l) (hs : w.cell? ad = some (vs b)) (hsz : l.length + 1 ≤ 1099511627776) (hB : B ≤ w.heap.size) :
    ∃ v' w', (Builtin.append_ #[23, 23] ty #[v, .slice (some ad) 1 c]).run Tryz.prog w = .ok v' w' ∧ OS w' B v' (l ++ [b]) ∧
      Loc w w' v v' l.length := by
  obtain ⟨i0, hi, hz0, hz1, hz2⟩ := info_parts infoS
  have hn : ∀ (j : Nat) (u : Value), [vs b][j]? = some u → w.cell? (ad.add j) = some u := fun j u hu => by
    match j, hu with
    | 0, hu => simp only [List.getElem?_cons_zero, Option.some.injEq] at hu; subst hu; exact hs
  have h1c : ∀ u ∈ [vs b], u.oneCell' = true := fun u hu => by
    simp only [List.mem_cons, List.not_mem_nil, or_false] at hu; rw [hu]; rfl
  have hmap : l.map vs ++ [vs b] = (l ++ [b]).map vs := by simp
  have ho0 := ho
  obtain ⟨hl, ⟨rfl, h0⟩ | ⟨g, cap, cur, rfl, hb, hg, hc, hm, hsz', ht⟩⟩ := ho
  · have hl0 : l = [] := List.eq_nil_of_length_eq_zero h0
    subst hl0
    obtain ⟨v', w', hr, r1, r2, _⟩ := run_append_own (P := Tryz.prog) w w.heap.size 23 ty 9 i0 (.string ⟨#[]⟩) 1 16 Tryz.underlying23 hi hz0 hz1 hz2 rfl (by decide) (.slice none 0 0) 0 [] (World.ownsRow_nil w _ _ _) ad 1 c [vs b] rfl hn h1c (by unfold maxLen; omega) (by omega) (Nat.le_refl _)
    refine ⟨v', w', hr, OS.mono (B := w.heap.size) r1 hB, Or.inr ⟨r2, fun q hq => own_ge r1 q hq⟩⟩
  · by_cases hroom : l.length + 1 ≤ cap
    · obtain ⟨w', hr, r1, r2⟩ := run_append_fits (P := Tryz.prog) w B 23 ty 9 i0 1 Tryz.underlying23 hi hz1 g l.length cap (l.map vs) ho0 ad 1 c [vs b] rfl hn h1c hroom
      refine ⟨_, w', hr, ?_, Or.inl ⟨g, cap, rfl, rfl, r2⟩⟩
      unfold OS
      rw [← hmap, List.length_append]
      exact r1
    · have hcell := fun j hj => OS.cells (n := l.length) (cap := cap) ho0 j hj
      obtain ⟨v', w', hr, r1, r2⟩ := run_append_arg_grows (P := Tryz.prog) w 23 ty 9 i0 (.string ⟨#[]⟩) 1 16 Tryz.underlying23 hi hz0 hz1 hz2 rfl (by decide) ⟨g, 0, none⟩ l.length cap (l.map vs) (by simp)
        (fun j u hu => by
          rw [List.getElem?_map] at hu
          cases hx : l[j]? with
          | none => rw [hx] at hu; cases hu
          | some x =>
            rw [hx] at hu
            cases hu
            obtain ⟨hj, hx'⟩ := List.getElem?_eq_some_iff.1 hx
            have e : (⟨g, 0, none⟩ : Addr).add j = ⟨g, j, none⟩ := by unfold Addr.add; split <;> simp_all
            rw [e, hcell j hj, hx']; rfl)
        ad 1 c [vs b] rfl hn (by omega) (by unfold maxLen; omega) (by omega)
      refine ⟨v', w', hr, ?_, Or.inr ⟨r2, fun q hq => own_ge r1 q hq⟩⟩
      have : w'.ownsRow w.heap.size 9 1 v' (l ++ [b]).length ((l ++ [b]).map vs) := by rw [← hmap, List.length_append]; exact r1
      exact OS.mono (B := w.heap.size) this hB
theorem wpList_append_text {w : World} {ops : Array Oper} {rest : List Oper} {o : Oper} {a : Act} {Q : Exit → Act → World → Prop} (hgd : o.guard = none) (s y : Operand)
    (ho : o.op = .call { callee := .builtin .append, args := #[s, y], argTypes := #[23, 23] })
    (B : Nat) (v : Value) (l : List ByteArray) (b : ByteArray) (ad : Addr) (c : Nat) (ev : a.eval s = v) (evs : a.eval y = .slice (some ad) 1 c) (hv : OS w B v l) (hs : w.cell? ad = some (vs b)) (hsz : l.length + 1 ≤ 1099511627776) (hB : B ≤ w.heap.size)
    (hq : ∀ v' w', OS w' B v' (l ++ [b]) → Loc w w' v v' l.length → wpList Tryz.prog ops Q rest (a.put o.dst v') w') :
    wpList Tryz.prog ops Q (o :: rest) a w := by
  refine wpList_plain hgd fun K hK => ?_
  obtain ⟨v', w', hr, h2, h3⟩ := run_append_text w o.type B v l b ad c hv hs hsz hB
  unfold Oper.wp execOp
  simp only [ho, resolve, invoke, builtin, Sem.run_bind, Sem.run_pure, Result.andThen_ok, List.map_toArray, List.map_cons, List.map_nil, ev, evs, hr]
  exact hK _ _ (hq v' w' h2 h3)
end Go.Proofs.YthpnclhfooileaaGreatDoor.ru
