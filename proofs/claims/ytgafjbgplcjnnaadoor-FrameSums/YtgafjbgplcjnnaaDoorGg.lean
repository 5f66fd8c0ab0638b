/- Lists of lists of bytes that the call owns. -/
import Derived.Test.YtgafjbgplcjnnaaDoorGf
namespace Go.Proofs.YtgafjbgplcjnnaaDoor.fr
open Go.RowKit

theorem below_drewN (B : Nat) (w : World) (n : Nat) : Below B w (w.drewN n) := ⟨rfl, rfl, rfl, Nat.le_refl _, fun _ _ => rfl⟩
theorem infoS : (Tryd.prog.info? 22).map (fun i => (i.zero, i.size, i.bytes)) = some (some (.slice none 0 0), 1, 24) := by kernel_rfl
theorem row_keep {w w' : World} {B e s n : Nat} {v : Value} {xs : List Value} (h : w.ownsRow B e s v n xs) (hk : ∀ k, v.ownBlock = some k → w'.heap[k]? = w.heap[k]?) : w'.ownsRow B e s v n xs := by
  obtain ⟨hl, ⟨rfl, h0⟩ | ⟨g, cap, cur, rfl, hb', hg, r⟩⟩ := h
  · exact ⟨hl, Or.inl ⟨rfl, h0⟩⟩
  · exact ⟨hl, Or.inr ⟨g, cap, cur, rfl, hb', (hk g rfl).trans hg, r⟩⟩
theorem row_lt {w : World} {B e s n : Nat} {v : Value} {xs : List Value} (h : w.ownsRow B e s v n xs) : ∀ k, v.ownBlock = some k → B ≤ k ∧ k < w.heap.size := World.ownsRow.lt h

/-- A list of lists of bytes in rows of the call's own, all of them apart. -/
def OBB (w : World) (B : Nat) (v : Value) (ls : List (List UInt8)) : Prop :=
  ∃ vs : List Value, vs.length = ls.length ∧ w.ownsRow B 22 1 v ls.length vs ∧
    (∀ (j : Nat) (x : Value) (l : List UInt8), vs[j]? = some x → ls[j]? = some l → OB w B x l) ∧
    (∀ (j : Nat) (x : Value) (k : Nat), vs[j]? = some x → x.ownBlock = some k → v.ownBlock ≠ some k) ∧
    (∀ (i j : Nat) (x y : Value) (k : Nat), i ≠ j → vs[i]? = some x → vs[j]? = some y → x.ownBlock = some k → y.ownBlock ≠ some k)
theorem OBB.nil (w : World) (B : Nat) : OBB w B (.slice none 0 0) [] :=
  ⟨[], rfl, World.ownsRow_nil _ _ _ _, fun j x l h => by simp at h, fun j x k h => by simp at h, fun i j x y k _ h => by simp at h⟩
/-- An element of such a list. -/
theorem getl {α β : Type} {vs : List α} {ls : List β} (h : vs.length = ls.length) {j : Nat} {x : α} (hx : vs[j]? = some x) : ∃ l, ls[j]? = some l := by
  obtain ⟨hj, _⟩ := List.getElem?_eq_some_iff.mp hx
  exact ⟨ls[j], List.getElem?_eq_getElem (by omega)⟩
theorem OBB.keep {w w' : World} {B C : Nat} {v : Value} {ls : List (List UInt8)} (h : OBB w B v ls) (hb : Below C w w') (hC : w.heap.size ≤ C) : OBB w' B v ls := by
  obtain ⟨vs, h1, h2, h3, h4, h5⟩ := h
  refine ⟨vs, h1, row_keep h2 (fun k hk => hb.block k (by have := (row_lt h2 k hk).2; omega)), fun j x l hx hl => ?_, h4, h5⟩
  have := h3 j x l hx hl
  exact this.keep hb (fun k hk => by have := this.lt k hk; omega)

theorem run_append_bl (w1 w2 : World) (ty B : Nat) (v x : Value) (ls : List (List UInt8)) (l : List UInt8) (h : OBB w1 B v ls) (hb : Below w1.heap.size w1 w2) (hx : OB w2 B x l)
    (hf : ∀ k, x.ownBlock = some k → w1.heap.size ≤ k) (hsz : (ls.length + 1) * 24 ≤ 140737488355328) (hB : B ≤ w1.heap.size) :
    ∃ v' w4, (Builtin.append_ #[36, 36] ty #[v, .slice (some ⟨w2.heap.size, 0, none⟩) 1 1]).run Tryd.prog (w2.alloc (.cells #[x] 22)) = .ok v' w4 ∧
      OBB w4 B v' (ls ++ [l]) ∧ (w2.alloc (.cells #[x] 22)).grownBy w4 v.ownBlock := by
  obtain ⟨vs, h1, h2, h3, h4, h5⟩ := h
  obtain ⟨i0, hi, hz0, hz1, hz2⟩ := info_parts infoS
  have hs12 := hb.size
  have hk : ∀ k, k < w1.heap.size → (w2.alloc (.cells #[x] 22)).heap[k]? = w1.heap[k]? := fun k hk => (Below.heap_alloc w2 _ k (by omega)).trans (hb.block k hk)
  have hsa : (w2.alloc (.cells #[x] 22)).heap.size = w2.heap.size + 1 := World.size_alloc _ _
  have hx1 : ∃ oa c, x = .slice oa l.length c := hx.form
  obtain ⟨v', w4, hr, g1, g2, _, g4⟩ := run_append_own_at (P := Tryd.prog) (w2.alloc (.cells #[x] 22)) B 36 ty 22 i0 (.slice none 0 0) 1 24 Tryd.underlying36 hi hz0 hz1 hz2 rfl (by decide) v ls.length vs
    (row_keep h2 (fun k q => hk k (row_lt h2 k q).2)) ⟨w2.heap.size, 0, none⟩ 1 1 [x] rfl
    (fun j u hu => by
      match j, hu with
      | 0, hu =>
        simp only [List.getElem?_cons_zero, Option.some.injEq] at hu
        subst hu
        show World.cell? _ ⟨w2.heap.size, 0, none⟩ = _
        rw [blk_cell (heap_alloc_new w2 _)]
        rfl)
    (fun u hu => by
      obtain ⟨oa, c, e⟩ := hx1
      simp only [List.mem_cons, List.not_mem_nil, or_false] at hu
      rw [hu, e]; rfl)
    (by unfold maxLen; omega) (by omega) (by rw [hsa]; omega)
  have old : ∀ (j : Nat) (y : Value) (ly : List UInt8), vs[j]? = some y → ls[j]? = some ly → OB w4 B y ly := fun j y ly hy hly => by
    have q := h3 j y ly hy hly
    refine row_keep q (fun k hk2 => ?_)
    have hlt := q.lt k hk2
    rw [g2.block k (by rw [hsa]; omega) (fun e => h4 j y k hy hk2 e.symm)]
    exact hk k hlt
  have new : OB w4 B x l := row_keep hx (fun k hk2 => by
    have hlt := hx.lt k hk2
    rw [g2.block k (by rw [hsa]; omega) (fun e => by have := (row_lt h2 k e.symm).2; have := hf k hk2; omega)]
    exact Below.heap_alloc w2 _ k hlt)
  refine ⟨v', w4, hr, ⟨vs ++ [x], by simp [h1], ?_, fun j y ly hy hly => ?_, fun j y k hy hyk => ?_, fun i j y z k hij hy hz hyk => ?_⟩, g2⟩
  · rw [List.length_append]; exact g1
  · rcases Nat.lt_or_ge j vs.length with hj | hj
    · rw [List.getElem?_append_left hj] at hy
      rw [List.getElem?_append_left (by omega)] at hly
      exact old j y ly hy hly
    · rw [List.getElem?_append_right hj] at hy
      rw [List.getElem?_append_right (by omega)] at hly
      have : j - vs.length = 0 := by
        rcases Nat.eq_zero_or_pos (j - vs.length) with q | q
        · exact q
        · rw [List.getElem?_eq_none (by simp; omega)] at hy; cases hy
      rw [this] at hy
      rw [show j - ls.length = 0 by omega] at hly
      cases hy; cases hly
      exact new
  · have yk : k < w2.heap.size ∧ v.ownBlock ≠ some k := by
      rcases Nat.lt_or_ge j vs.length with hj | hj
      · rw [List.getElem?_append_left hj] at hy
        obtain ⟨ly, hly⟩ := getl h1 hy
        have := (h3 j y ly hy hly).lt k hyk
        exact ⟨by omega, h4 j y k hy hyk⟩
      · rw [List.getElem?_append_right hj] at hy
        have : j - vs.length = 0 := by
          rcases Nat.eq_zero_or_pos (j - vs.length) with q | q
          · exact q
          · rw [List.getElem?_eq_none (by simp; omega)] at hy; cases hy
        rw [this] at hy
        cases hy
        exact ⟨hx.lt k hyk, fun e => by have := (row_lt h2 k e).2; have := hf k hyk; omega⟩
    rcases g4 with g4 | g4
    · rw [g4]; exact yk.2
    · rw [g4, hsa]; intro e; cases e; omega
  · have cs : ∀ (j : Nat) (y : Value), (vs ++ [x])[j]? = some y → (j < vs.length ∧ vs[j]? = some y) ∨ (j = vs.length ∧ y = x) := fun j y hy => by
      rcases Nat.lt_or_ge j vs.length with hj | hj
      · rw [List.getElem?_append_left hj] at hy; exact Or.inl ⟨hj, hy⟩
      · rw [List.getElem?_append_right hj] at hy
        have : j - vs.length = 0 := by
          rcases Nat.eq_zero_or_pos (j - vs.length) with q | q
          · exact q
          · rw [List.getElem?_eq_none (by simp; omega)] at hy; cases hy
        rw [this] at hy
        cases hy
        exact Or.inr ⟨by omega, rfl⟩
    have ltv : ∀ (j : Nat) (y : Value) (k : Nat), vs[j]? = some y → y.ownBlock = some k → k < w1.heap.size := fun j y k hy hk2 => by
      obtain ⟨ly, hly⟩ := getl h1 hy
      exact (h3 j y ly hy hly).lt k hk2
    rcases cs i y hy with ⟨_, a⟩ | ⟨a1, a2⟩ <;> rcases cs j z hz with ⟨_, b⟩ | ⟨b1, b2⟩
    · exact h5 i j y z k hij a b hyk
    · subst b2
      intro e
      have := ltv i y k a hyk
      have := hf k e
      omega
    · subst a2
      intro e
      have := ltv j z k b e
      have := hf k hyk
      omega
    · omega

theorem wpList_append_bl {w : World} {ops : Array Oper} {rest : List Oper} {o : Oper} {a : Act} {Q : Exit → Act → World → Prop} (hgd : o.guard = none) (s y : Operand)
    (ho : o.op = .call { callee := .builtin .append, args := #[s, y], argTypes := #[36, 36] })
    (w1 w2 : World) (B : Nat) (v x : Value) (ls : List (List UInt8)) (l : List UInt8) (hw : w = w2.alloc (.cells #[x] 22)) (ev : a.eval s = v) (evs : a.eval y = .slice (some ⟨w2.heap.size, 0, none⟩) 1 1)
    (h : OBB w1 B v ls) (hb : Below w1.heap.size w1 w2) (hx : OB w2 B x l) (hf : ∀ k, x.ownBlock = some k → w1.heap.size ≤ k) (hsz : (ls.length + 1) * 24 ≤ 140737488355328) (hB : B ≤ w1.heap.size)
    (hq : ∀ v' w', OBB w' B v' (ls ++ [l]) → (w2.alloc (.cells #[x] 22)).grownBy w' v.ownBlock → wpList Tryd.prog ops Q rest (a.put o.dst v') w') : wpList Tryd.prog ops Q (o :: rest) a w := by
  subst hw
  refine wpList_plain hgd fun K hK => ?_
  obtain ⟨v', w', hr, h2, h3⟩ := run_append_bl w1 w2 o.type B v x ls l h hb hx hf hsz hB
  unfold Oper.wp execOp
  simp only [ho, resolve, invoke, builtin, Sem.run_bind, Sem.run_pure, Result.andThen_ok, List.map_toArray, List.map_cons, List.map_nil, ev, evs, hr]
  exact hK _ _ (hq v' w' h2 h3)

end Go.Proofs.YtgafjbgplcjnnaaDoor.fr
