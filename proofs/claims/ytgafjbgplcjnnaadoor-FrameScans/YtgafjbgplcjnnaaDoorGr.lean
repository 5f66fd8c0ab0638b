/- Rows of bytes apart from each other: stores and appends, and what stays. -/
import Derived.Test.YtgafjbgplcjnnaaDoorGq
import Derived.ArgAppend
import Derived.OwnWalk
namespace Go.Proofs.YtgafjbgplcjnnaaDoor.fr
open Go.RowKit Go.Joins

/-- append of one byte: in its row, where there is room; else in a new one, and then all that was there stays. -/
theorem run_append_two (w : World) (ty B : Nat) (v : Value) (l : List UInt8) (b : UInt8) (ad : Addr) (c : Nat) (ho : OB w B v l) (hs : w.cell? ad = some (vb b)) (hsz : l.length + 1 ≤ 140737488355328) (hB : B ≤ w.heap.size) :
    ∃ v' w', (Builtin.append_ #[22, 22] ty #[v, .slice (some ad) 1 c]).run Tryd.prog w = .ok v' w' ∧ OB w' B v' (l ++ [b]) ∧
      ((∃ g cap, v = .slice (some ⟨g, 0, none⟩) l.length cap ∧ v' = .slice (some ⟨g, 0, none⟩) (l.length + 1) cap ∧ w.grownBy w' (some g)) ∨ (w.grownBy w' none ∧ ∀ q, v'.ownBlock = some q → w.heap.size ≤ q)) := by
  obtain ⟨i0, hi, hz0, hz1, hz2⟩ := info_parts infoU
  have hn : ∀ (j : Nat) (u : Value), [vb b][j]? = some u → w.cell? (ad.add j) = some u := fun j u hu => by
    match j, hu with
    | 0, hu => simp only [List.getElem?_cons_zero, Option.some.injEq] at hu; subst hu; exact hs
  have h1c : ∀ u ∈ [vb b], u.oneCell' = true := fun u hu => by
    simp only [List.mem_cons, List.not_mem_nil, or_false] at hu; rw [hu]; rfl
  have hmap : l.map vb ++ [vb b] = (l ++ [b]).map vb := by simp
  have ho0 := ho
  obtain ⟨hl, ⟨rfl, h0⟩ | ⟨g, cap, cur, rfl, hb, hg, hc, hm, hsz', ht⟩⟩ := ho
  · have hl0 : l = [] := List.eq_nil_of_length_eq_zero h0
    subst hl0
    obtain ⟨v', w', hr, r1, r2, _⟩ := run_append_own (P := Tryd.prog) w w.heap.size 22 ty 5 i0 (.int .u8 0) 1 1 Tryd.underlying22 hi hz0 hz1 hz2 rfl (by decide) (.slice none 0 0) 0 [] (World.ownsRow_nil w _ _ _) ad 1 c [vb b] rfl hn h1c (by unfold maxLen; omega) (by omega) (Nat.le_refl _)
    refine ⟨v', w', hr, OB.mono (B := w.heap.size) r1 hB, Or.inr ⟨r2, fun q hq => (row_lt r1 q hq).1⟩⟩
  · by_cases hroom : l.length + 1 ≤ cap
    · obtain ⟨w', hr, r1, r2⟩ := run_append_fits (P := Tryd.prog) w B 22 ty 5 i0 1 Tryd.underlying22 hi hz1 g l.length cap (l.map vb) ho0 ad 1 c [vb b] rfl hn h1c hroom
      refine ⟨_, w', hr, ?_, Or.inl ⟨g, cap, rfl, rfl, r2⟩⟩
      unfold OB
      rw [← hmap, List.length_append]
      exact r1
    · have hbs := ho0.bs
      obtain ⟨oa, c', e, _, _, _, q4⟩ := hbs
      cases e
      obtain ⟨v', w', hr, r1, r2⟩ := run_append_arg_grows (P := Tryd.prog) w 22 ty 5 i0 (.int .u8 0) 1 1 Tryd.underlying22 hi hz0 hz1 hz2 rfl (by decide) ⟨g, 0, none⟩ l.length cap (l.map vb) (by simp)
        (fun j u hu => by
          rw [List.getElem?_map] at hu
          cases hx : l[j]? with
          | none => rw [hx] at hu; cases hu
          | some x => rw [hx] at hu; cases hu; exact q4 _ rfl j x hx)
        ad 1 c [vb b] rfl hn (by omega) (by unfold maxLen; omega) (by omega)
      refine ⟨v', w', hr, ?_, Or.inr ⟨r2, fun q hq => (row_lt r1 q hq).1⟩⟩
      have : w'.ownsRow w.heap.size 5 1 v' (l ++ [b]).length ((l ++ [b]).map vb) := by rw [← hmap, List.length_append]; exact r1
      exact OB.mono (B := w.heap.size) this hB

theorem wpList_append_two {w : World} {ops : Array Oper} {rest : List Oper} {o : Oper} {a : Act} {Q : Exit → Act → World → Prop} (hgd : o.guard = none) (s y : Operand)
    (ho : o.op = .call { callee := .builtin .append, args := #[s, y], argTypes := #[22, 22] })
    (B : Nat) (v : Value) (l : List UInt8) (b : UInt8) (ad : Addr) (c : Nat) (ev : a.eval s = v) (evs : a.eval y = .slice (some ad) 1 c) (hv : OB w B v l) (hs : w.cell? ad = some (vb b)) (hsz : l.length + 1 ≤ 140737488355328) (hB : B ≤ w.heap.size)
    (hq : ∀ v' w', OB w' B v' (l ++ [b]) → ((∃ g cap, v = .slice (some ⟨g, 0, none⟩) l.length cap ∧ v' = .slice (some ⟨g, 0, none⟩) (l.length + 1) cap ∧ w.grownBy w' (some g)) ∨ (w.grownBy w' none ∧ ∀ q, v'.ownBlock = some q → w.heap.size ≤ q)) → wpList Tryd.prog ops Q rest (a.put o.dst v') w') :
    wpList Tryd.prog ops Q (o :: rest) a w := by
  refine wpList_plain hgd fun K hK => ?_
  obtain ⟨v', w', hr, h2, h3⟩ := run_append_two w o.type B v l b ad c hv hs hsz hB
  unfold Oper.wp execOp
  simp only [ho, resolve, invoke, builtin, Sem.run_bind, Sem.run_pure, Result.andThen_ok, List.map_toArray, List.map_cons, List.map_nil, ev, evs, hr]
  exact hK _ _ (hq v' w' h2 h3)

/-- Each row holds what f says. -/
def RF (w : World) (B : Nat) (vs : List Value) (ls : List (List UInt8)) (f : Nat → List UInt8 → List UInt8) : Prop :=
  ∀ (j : Nat) (x : Value) (l : List UInt8), vs[j]? = some x → ls[j]? = some l → OB w B x (f j l)
/-- The rows are apart. -/
def DS (vs : List Value) : Prop := ∀ (i j : Nat) (x y : Value) (k : Nat), i ≠ j → vs[i]? = some x → vs[j]? = some y → x.ownBlock = some k → y.ownBlock ≠ some k
/-- The list of them, as it is read; it lies in none of them. -/
def HD (w : World) (oa : Option Addr) (vs : List Value) : Prop := ∀ a, oa = some a → ∀ (j : Nat) (u : Value), vs[j]? = some u → w.cell? (a.add j) = some u
def AW (oa : Option Addr) (vs : List Value) : Prop := ∀ a, oa = some a → ∀ (j : Nat) (x : Value) (k : Nat), vs[j]? = some x → x.ownBlock = some k → a.block ≠ k
theorem RF.congr {w : World} {B : Nat} {vs : List Value} {ls : List (List UInt8)} {f g : Nat → List UInt8 → List UInt8} (h : RF w B vs ls f) (e : ∀ (j : Nat) (l : List UInt8), ls[j]? = some l → f j l = g j l) : RF w B vs ls g :=
  fun j x l hx hl => by rw [← e j l hl]; exact h j x l hx hl
theorem RF.far {w w' : World} {B : Nat} {vs : List Value} {ls : List (List UInt8)} {f : Nat → List UInt8 → List UInt8} (h : RF w B vs ls f) (hb : ∀ (j : Nat) (x : Value) (k : Nat), vs[j]? = some x → x.ownBlock = some k → k < w.heap.size → w'.heap[k]? = w.heap[k]?) : RF w' B vs ls f :=
  fun j x l hx hl' => row_keep (h j x l hx hl') (fun k hk => hb j x k hx hk ((h j x l hx hl').lt k hk))
theorem HD.far {w w' : World} {oa : Option Addr} {vs : List Value} (h : HD w oa vs) (hb : ∀ a, oa = some a → a.block < w.heap.size → w'.heap[a.block]? = w.heap[a.block]?) : HD w' oa vs := by
  intro a ha j u hu
  have q := h a ha j u hu
  have hlt : a.block < w.heap.size := by
    have := cell_lt' q
    unfold Addr.add at this
    split at this <;> exact this
  have e : (a.add j).block = a.block := by unfold Addr.add; split <;> rfl
  rw [World.cell?_of_block (w := w) (by rw [e]; exact hb a ha hlt)]
  exact q
theorem RF.set {w : World} {B : Nat} {vs : List Value} {ls : List (List UInt8)} {f f' : Nat → List UInt8 → List UInt8} (h : RF w B vs ls f) (hD : DS vs) {i g n c k : Nat} {b : UInt8} (hi : vs[i]? = some (.slice (some ⟨g, 0, none⟩) n c))
    (h1 : ∀ (j : Nat) (l : List UInt8), ls[j]? = some l → j ≠ i → f' j l = f j l) (h2 : ∀ l, ls[i]? = some l → f' i l = (f i l).set k b) : RF (w.setCell ⟨g, k, none⟩ (vb b)) B vs ls f' := by
  intro j x l hx hl
  by_cases e : j = i
  · subst e
    rw [hi] at hx
    cases hx
    rw [h2 l hl]
    exact (h j _ l hi hl).set k b
  · rw [h1 j l hl e]
    refine row_keep (h j x l hx hl) (fun q hq => Below.heap_setCell w _ _ q (fun z => ?_))
    exact hD j i x _ q e hx hi hq (by rw [z]; rfl)

end Go.Proofs.YtgafjbgplcjnnaaDoor.fr
