/- Bytes that the call owns, and append of bytes. -/
import Derived.Test.YtgafjbgplcjnnaaDoorGd
import Derived.Laws.AppendOwnNone
import Derived.Deep.AppendLies
namespace Go.Proofs.YtgafjbgplcjnnaaDoor.fr
open Go.RowKit

/-- Bytes in a row of the call's own, from block B on. -/
def OB (w : World) (B : Nat) (v : Value) (l : List UInt8) : Prop := w.ownsRow B 5 1 v l.length (l.map vb)
theorem infoU : (Tryd.prog.info? 5).map (fun i => (i.zero, i.size, i.bytes)) = some (some (.int .u8 0), 1, 1) := by kernel_rfl
theorem OB.nil (w : World) (B : Nat) : OB w B (.slice none 0 0) [] := ⟨rfl, Or.inl ⟨rfl, rfl⟩⟩
theorem OB.bs {w : World} {B : Nat} {v : Value} {l : List UInt8} (h : OB w B v l) : BS w v l := by
  obtain ⟨hl, ⟨rfl, h0⟩ | ⟨g, cap, cur, rfl, hb, hg, hc, hm, hs, ht⟩⟩ := h
  · have : l = [] := List.eq_nil_of_length_eq_zero h0
    subst this
    exact ⟨none, 0, rfl, by simp, by unfold maxLen; omega, fun _ => ⟨rfl, rfl⟩, fun a ha => by cases ha⟩
  · refine ⟨_, cap, rfl, hc, hm, (fun q => by cases q), fun a ha j u hu => ?_⟩
    cases ha
    obtain ⟨hj, hju⟩ := List.getElem?_eq_some_iff.mp hu
    have e : (⟨g, 0, none⟩ : Addr).add j = ⟨g, j, none⟩ := by unfold Addr.add; split <;> simp_all
    rw [e, blk_cell hg]
    have h1 : (cur.toList.take (l.length * 1))[j]? = (l.map vb)[j]? := by rw [ht]
    rw [List.getElem?_take, if_pos (by omega), List.getElem?_map, hu] at h1
    simpa using h1
theorem OB.ge {w : World} {B : Nat} {v : Value} {l : List UInt8} (h : OB w B v l) : ∀ k, v.ownBlock = some k → B ≤ k := by
  obtain ⟨_, ⟨rfl, _⟩ | ⟨g, cap, cur, rfl, hb, _⟩⟩ := h
  · intro k hk; cases hk
  · intro k hk; cases hk; exact hb
theorem OB.lt {w : World} {B : Nat} {v : Value} {l : List UInt8} (h : OB w B v l) : ∀ k, v.ownBlock = some k → k < w.heap.size := by
  obtain ⟨_, ⟨rfl, _⟩ | ⟨g, cap, cur, rfl, hb, hg, _⟩⟩ := h
  · intro k hk; cases hk
  · intro k hk; cases hk; exact blk_lt hg
theorem OB.keep {w w' : World} {B C : Nat} {v : Value} {l : List UInt8} (h : OB w B v l) (hb : Below C w w') (hC : ∀ k, v.ownBlock = some k → k < C) : OB w' B v l := by
  obtain ⟨hl, ⟨rfl, h0⟩ | ⟨g, cap, cur, rfl, hb', hg, r⟩⟩ := h
  · exact ⟨hl, Or.inl ⟨rfl, h0⟩⟩
  · exact ⟨hl, Or.inr ⟨g, cap, cur, rfl, hb', (hb.block g (hC g rfl)).trans hg, r⟩⟩
theorem OB.mono {w : World} {B B' : Nat} {v : Value} {l : List UInt8} (h : OB w B v l) (hB : B' ≤ B) : OB w B' v l := by
  obtain ⟨hl, ⟨rfl, h0⟩ | ⟨g, cap, cur, rfl, hb', r⟩⟩ := h
  · exact ⟨hl, Or.inl ⟨rfl, h0⟩⟩
  · exact ⟨hl, Or.inr ⟨g, cap, cur, rfl, by omega, r⟩⟩
theorem OB.form {w : World} {B : Nat} {v : Value} {l : List UInt8} (h : OB w B v l) : ∃ oa c, v = .slice oa l.length c := by
  obtain ⟨oa, c, e, _⟩ := h.bs
  exact ⟨oa, c, e⟩

theorem run_append_bytes (w : World) (ty B : Nat) (v vs : Value) (l m : List UInt8) (ho : OB w B v l) (hs : BS w vs m) (hsz : l.length + m.length ≤ 140737488355328) (hB : B ≤ w.heap.size) :
    ∃ v' w', (Builtin.append_ #[22, 22] ty #[v, vs]).run Tryd.prog w = .ok v' w' ∧ OB w' B v' (l ++ m) ∧ w.grownBy w' v.ownBlock ∧ (v'.ownBlock = v.ownBlock ∨ v'.ownBlock = some w.heap.size) := by
  obtain ⟨i0, hi, hz0, hz1, hz2⟩ := info_parts infoU
  obtain ⟨oa, c, rfl, h1, h2, h3, h4⟩ := hs
  cases oa with
  | none =>
    obtain ⟨rfl, rfl⟩ := h3 rfl
    have := run_append_owned_none (P := Tryd.prog) (w := w) B 22 ty 5 i0 1 Tryd.underlying22 hi v l.length (l.map vb) ho
    exact ⟨v, w, this, by simpa using ho, World.grownBy.refl _ _, Or.inl rfl⟩
  | some ad =>
    obtain ⟨v', w', hr, h5, h6, _, h8⟩ := run_append_own_at (P := Tryd.prog) w B 22 ty 5 i0 (.int .u8 0) 1 1 Tryd.underlying22 hi hz0 hz1 hz2 rfl (by decide) v l.length (l.map vb) ho ad m.length c (m.map vb) (by simp)
      (fun j u hu => by
        rw [List.getElem?_map] at hu
        cases hm : m[j]? with
        | none => rw [hm] at hu; cases hu
        | some x => rw [hm] at hu; cases hu; exact h4 ad rfl j x hm)
      (fun u hu => by
        obtain ⟨x, _, rfl⟩ := List.mem_map.mp hu
        rfl) (by unfold maxLen; omega) (by omega) hB
    refine ⟨v', w', hr, ?_, h6, h8⟩
    unfold OB
    rw [List.length_append, List.map_append]
    exact h5

theorem wpList_append_bytes {w : World} {ops : Array Oper} {rest : List Oper} {o : Oper} {a : Act} {Q : Exit → Act → World → Prop} (hgd : o.guard = none) (s x : Operand)
    (ho : o.op = .call { callee := .builtin .append, args := #[s, x], argTypes := #[22, 22] })
    (B : Nat) (v vs : Value) (l m : List UInt8) (ev : a.eval s = v) (evs : a.eval x = vs) (hv : OB w B v l) (hs : BS w vs m) (hsz : l.length + m.length ≤ 140737488355328) (hB : B ≤ w.heap.size)
    (h : ∀ v' w', OB w' B v' (l ++ m) → w.grownBy w' v.ownBlock → (v'.ownBlock = v.ownBlock ∨ v'.ownBlock = some w.heap.size) → wpList Tryd.prog ops Q rest (a.put o.dst v') w') : wpList Tryd.prog ops Q (o :: rest) a w := by
  refine wpList_plain hgd fun K hK => ?_
  obtain ⟨v', w', hr, h2, h3, h4⟩ := run_append_bytes w o.type B v vs l m hv hs hsz hB
  unfold Oper.wp execOp
  simp only [ho, resolve, invoke, builtin, Sem.run_bind, Sem.run_pure, Result.andThen_ok, List.map_toArray, List.map_cons, List.map_nil, ev, evs, hr]
  exact hK _ _ (h v' w' h2 h3 h4)

end Go.Proofs.YtgafjbgplcjnnaaDoor.fr
