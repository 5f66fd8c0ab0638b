/- The landed disk in memory: the file's row, whatever room it has. -/
import Derived.Test.YtbcclolhfogpnaaDoorDk1
import Derived.Test.YtbcclolhfogpnaaDoorYl
import Derived.Laws.OwnMore
import Derived.ArgAppend
namespace Go.Proofs.YtbcclolhfogpnaaDoor.dk
open Go.RowKit mm

/-- Bytes at a block's beginning, the block as great as sz. -/
def RB (w : World) (g : Nat) (L : List UInt8) (sz : Nat) : Prop := ∃ cur, w.heap[g]? = some (.cells cur 5 (0, 0)) ∧ cur.size = sz ∧ cur.toList.take L.length = L.map vb ∧ L.length ≤ sz
section
variable {w w' : World} {g sz : Nat} {L : List UInt8}
theorem RB.lt (h : RB w g L sz) : g < w.heap.size := by obtain ⟨_, h, _⟩ := h; exact blk_lt h
theorem RB.keep (h : RB w g L sz) (hk : w'.heap[g]? = w.heap[g]?) : RB w' g L sz := by obtain ⟨c, h, r⟩ := h; exact ⟨c, hk.trans h, r⟩
theorem RB.frz (h : RB w g L sz) (j : Nat) : w.frozen? ⟨g, j, none⟩ = false := by obtain ⟨c, h, r⟩ := h; exact blk_free h j
theorem RB.cell (h : RB w g L sz) (j : Nat) (b : UInt8) (hb : L[j]? = some b) : w.cell? ⟨g, j, none⟩ = some (.int .u8 (b.toNat : Int)) := by
  obtain ⟨cur, h, _, ht, _⟩ := h
  obtain ⟨hj, _⟩ := List.getElem?_eq_some_iff.mp hb
  rw [blk_cell h]
  have h1 : (cur.toList.take L.length)[j]? = (L.map vb)[j]? := by rw [ht]
  rw [List.getElem?_take, if_pos hj, List.getElem?_map, hb] at h1
  simpa [vb] using h1
theorem RB.set (h : RB w g L sz) (j : Nat) (b : UInt8) : RB (w.setCell ⟨g, j, none⟩ (.int .u8 (b.toNat : Int))) g (L.set j b) sz := by
  obtain ⟨cur, h, hs, ht, hl⟩ := h
  refine ⟨cur.setIfInBounds j (vb b), blk_set h j _, by simpa using hs, ?_, by rw [List.length_set]; exact hl⟩
  rw [List.length_set, Array.toList_setIfInBounds, List.take_set, ht, List.map_set]
theorem RB.take (h : RB w g L sz) (n : Nat) (hn : n ≤ L.length) : RB w g (L.take n) sz := by
  obtain ⟨cur, h, hs, ht, hl⟩ := h
  refine ⟨cur, h, hs, ?_, by rw [List.length_take]; omega⟩
  rw [List.length_take, Nat.min_eq_left hn, List.map_take, ← ht, List.take_take, Nat.min_eq_left hn]
end

/-- The file: a slice from its block's beginning on. -/
def FR (w : World) (v : Value) (l : List UInt8) : Prop :=
  (v = .slice none 0 0 ∧ l = []) ∨ ∃ g cap sz, v = .slice (some ⟨g, 0, none⟩) l.length cap ∧ RB w g l sz ∧ l.length ≤ cap ∧ cap ≤ maxLen ∧ cap ≤ sz
section
variable {w w' : World} {v : Value} {l : List UInt8}
theorem FR.keep (h : FR w v l) (hk : ∀ k, v.ownBlock = some k → w'.heap[k]? = w.heap[k]?) : FR w' v l := by
  rcases h with h | ⟨g, cap, sz, rfl, h, r⟩
  · exact Or.inl h
  · exact Or.inr ⟨g, cap, sz, rfl, h.keep (hk g rfl), r⟩
theorem FR.lt (h : FR w v l) (k : Nat) (hk : v.ownBlock = some k) : k < w.heap.size := by
  rcases h with ⟨rfl, _⟩ | ⟨g, cap, sz, rfl, h, r⟩
  · cases hk
  · cases hk; exact h.lt
theorem FR.by (h : FR w v l) : BY w v l := by
  rcases h with ⟨rfl, rfl⟩ | ⟨g, cap, sz, rfl, h, h1, h2, h3⟩
  · exact ⟨rfl, none, 0, rfl, by simp, by unfold maxLen; omega, fun _ => ⟨rfl, rfl⟩, fun a ha => by cases ha⟩
  · refine ⟨by simp, _, cap, rfl, h1, h2, (fun q => by cases q), fun a ha j u hu => ?_⟩
    cases ha
    rw [List.getElem?_map] at hu
    cases hl : l[j]? with
    | none => rw [hl] at hu; cases hu
    | some b =>
      rw [hl] at hu
      cases hu
      rw [add0]
      exact h.cell j b hl
theorem FR.upd {g : Nat} (h : FR w v l) (hu : Upd g w w') (hn : v.ownBlock ≠ some g) : FR w' v l := h.keep (fun k hk => hu.block k (fun q => hn (by rw [hk, q])))
theorem fr_own {B : Nat} (h : OY w B v l) : FR w v l := by
  obtain ⟨hl, ⟨rfl, h0⟩ | ⟨g, cap, cur, rfl, hb, hg, hc, hm, hs, ht⟩⟩ := h
  · exact Or.inl ⟨rfl, List.eq_nil_of_length_eq_zero h0⟩
  · exact Or.inr ⟨g, cap, cap, rfl, ⟨cur, hg, by simpa using hs, by simpa using ht, hc⟩, hc, hm, Nat.le_refl _⟩
theorem FR.len (h : FR w v l) : l.length ≤ maxLen := by
  rcases h with ⟨_, rfl⟩ | ⟨g, cap, sz, rfl, h, h1, h2, h3⟩
  · simp
  · omega
/-- l[:n:n] -/
theorem FR.hm (h : FR w v l) (n : Nat) (hn : n ≤ l.length) (k : Int) (ek : k = (n : Int)) :
    ∃ c, (∀ u : World, (Instr.slice 27 v none (some (.int .i64 k)) (some (.int .i64 k))).run Tryd.prog u = .ok (.slice c n n) u) ∧ FR w (.slice c n n) (l.take n) ∧ (Value.slice c n n).ownBlock = v.ownBlock := by
  subst ek
  rcases h with ⟨rfl, rfl⟩ | ⟨g, cap, sz, rfl, h, h1, h2, h3⟩
  · have : n = 0 := by simpa using hn
    subst this
    refine ⟨none, fun u => ?_, Or.inl ⟨rfl, by simp⟩, rfl⟩
    rw [run_slice_hm (P := Tryd.prog) (ht := undU) (h0 := by omega) (h2 := by omega) (h3 := by omega), size_u]
    rfl
  · refine ⟨some ⟨g, 0, none⟩, fun u => ?_, Or.inr ⟨g, n, sz, by rw [List.length_take, Nat.min_eq_left hn], h.take n hn, by rw [List.length_take]; omega, by omega, by omega⟩, rfl⟩
    rw [run_slice_hm (P := Tryd.prog) (ht := undU) (h0 := by omega) (h2 := by omega) (h3 := by omega), size_u]
    show Result.ok (sliced (some ⟨g, 0, none⟩) 0 n n 1) u = _
    unfold sliced
    simp [Addr.add]
end

section
variable {P : Program}
/-- What an append of bytes to the file leaves. -/
structure Apf (w w' : World) (v v' : Value) (l : List UInt8) : Prop where
  row : FR w' v' l
  os : w'.os = w.os
  tape : w'.tape = w.tape
  output : w'.output = w.output
  size : w.heap.size ≤ w'.heap.size
  block : ∀ k, k < w.heap.size → v.ownBlock ≠ some k → w'.heap[k]? = w.heap[k]?
  blk : ∀ k, v'.ownBlock = some k → v.ownBlock = some k ∨ w.heap.size ≤ k
theorem run_append_fr (w : World) (ty : Nat) (v vs : Value) (l m : List UInt8) (ho : FR w v l) (hs : BY w vs m) (hb : l.length + m.length ≤ 70000000000000) :
    ∃ v' w', (Builtin.append_ #[27, 27] ty #[v, vs]).run Tryd.prog w = .ok v' w' ∧ Apf w w' v v' (l ++ m) := by
  rcases ho with ⟨rfl, rfl⟩ | ⟨g, cap, sz, rfl, h, h1, h2, h3⟩
  · obtain ⟨v', w', hr, h5, h6, h7⟩ := run_append_sv (P := Tryd.prog) w w.heap.size 27 ty 5 (.int .u8 0) 1 1 undU infoU rfl (by decide) (.slice none 0 0) vs 0 m.length [] (m.map vb) (World.ownsRow_nil _ _ _ _) hs (one_by m) (by unfold maxLen; simp at hb; omega) (by simp at hb; omega) (Nat.le_refl _)
    refine ⟨v', w', hr, ⟨fr_own (B := w.heap.size) (by unfold OY; simpa using h5), h6.os, h6.tape, h6.output, h6.size, fun k hk _ => h6.block k hk (by simp [Value.ownBlock]), fun k hk => Or.inr (row_lt h5 k hk).1⟩⟩
  · obtain ⟨i0, hi, hz0, hz1, hz2⟩ := info_parts infoU
    obtain ⟨hl, oa, c, rfl, g1, g2, g3, g4⟩ := hs
    cases oa with
    | none =>
      obtain ⟨hm0, rfl⟩ := g3 rfl
      have hm : m = [] := List.eq_nil_of_length_eq_zero hm0
      subst hm
      refine ⟨_, w, ?_, ⟨by rw [List.append_nil]; exact Or.inr ⟨g, cap, sz, rfl, h, h1, h2, h3⟩, rfl, rfl, rfl, Nat.le_refl _, fun _ _ _ => rfl, fun k hk => Or.inl hk⟩⟩
      simp [Builtin.append_, run_underlying undU, sizeOf, typeInfo, hi, Builtin.lenOf, Builtin.firstCells, h1, storeCells]
    | some ad =>
      by_cases hroom : l.length + m.length ≤ cap
      · obtain ⟨cur, hg, hsz, ht, hle⟩ := h
        have hr := run_append_room (P := Tryd.prog) w 27 ty 5 i0 undU hi g l.length cap cur hg ad m.length c (m.map vb) (by rw [List.length_map, hz1]; omega) (g4 ad rfl) (one_by m) hroom (by rw [List.length_map, hz1, hsz]; omega)
        refine ⟨_, _, hr, ⟨Or.inr ⟨g, cap, sz, by rw [List.length_append], ⟨_, setRow_heap w g cur _ _ _ hg, ?_, ?_, by rw [List.length_append]; omega⟩, by rw [List.length_append]; exact hroom, h2, h3⟩, rfl, rfl, rfl, by simp, fun k _ hk => setRow_other w g k _ (fun e => hk (by simp [Value.ownBlock, e])), fun k hk => Or.inl hk⟩⟩
        · simp only [List.size_toArray, List.length_append, List.length_take, List.length_drop, Array.length_toList, List.length_map, hz1]
          omega
        · simp only [hz1, Nat.mul_one, ht, List.length_append, List.map_append]
          rw [show l.length + m.length = (l.map vb ++ m.map vb).length from by simp]
          exact List.take_left
      · obtain ⟨v', w', hr, r1, r2⟩ := run_append_arg_grows (P := Tryd.prog) w 27 ty 5 i0 (.int .u8 0) 1 1 undU hi hz0 hz1 hz2 rfl (by decide) ⟨g, 0, none⟩ l.length cap (l.map vb) (by simp) (fun j u hu => by
          rw [List.getElem?_map] at hu
          cases hlj : l[j]? with
          | none => rw [hlj] at hu; cases hu
          | some b =>
            rw [hlj] at hu
            cases hu
            rw [add0]
            exact h.cell j b hlj) ad m.length c (m.map vb) (by simp) (g4 ad rfl) (by omega) (by unfold maxLen; omega) (by omega)
        exact ⟨v', w', hr, ⟨fr_own (B := w.heap.size) (by unfold OY; simpa using r1), r2.os, r2.tape, r2.output, r2.size, fun k hk _ => r2.block k hk (by simp), fun k hk => Or.inr (row_lt r1 k hk).1⟩⟩

theorem wpList_append_fr {w : World} {ops : Array Oper} {rest : List Oper} {o : Oper} {a : Act} {Q : Exit → Act → World → Prop} (hgd : o.guard = none) (x y : Operand)
    (ho : o.op = .call { callee := .builtin .append, args := #[x, y], argTypes := #[27, 27] })
    (v vs : Value) (l m : List UInt8) (ev : a.eval x = v) (evs : a.eval y = vs) (hv : Hid (FR w v l)) (hs : Hid (BY w vs m)) (hb : Hid (l.length + m.length ≤ 70000000000000))
    (h : ∀ oa n c w', Hid (Apf w w' v (.slice oa n c) (l ++ m)) → wpList Tryd.prog ops Q rest (a.put o.dst (.slice oa n c)) w') : wpList Tryd.prog ops Q (o :: rest) a w := by
  refine wpList_plain hgd fun K hK => ?_
  obtain ⟨v', w', hr, h2⟩ := run_append_fr w o.type v vs l m (unhide hv) (unhide hs) (unhide hb)
  unfold Oper.wp execOp
  simp only [ho, resolve, invoke, builtin, Sem.run_bind, Sem.run_pure, Result.andThen_ok, List.map_toArray, List.map_cons, List.map_nil, ev, evs, hr]
  obtain ⟨oa, c, rfl, _, _⟩ := (FR.by h2.row).form
  exact hK _ _ (h _ _ _ w' h2)
end
end Go.Proofs.YtbcclolhfogpnaaDoor.dk
