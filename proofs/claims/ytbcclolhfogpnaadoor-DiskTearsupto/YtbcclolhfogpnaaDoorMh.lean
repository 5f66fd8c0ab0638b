/- append to a row of the call's own: what it leaves of the row that was there. -/
import Derived.Test.YtbcclolhfogpnaaDoorMr
import Derived.ArgAppend
import Derived.OwnWalk
namespace Go.Proofs.YtbcclolhfogpnaaDoor.mm
open Go.RowKit

/-- What an append leaves: the longer row; the row that was there reads as it did; what lies elsewhere stays; the longer row lies in the old one's block or in a new one. -/
structure Apd (w w' : World) (B e s : Nat) (v v' : Value) (n m : Nat) (xs news : List Value) : Prop where
  row : w'.ownsRow B e s v' (n + m) (xs ++ news)
  old : w'.ownsRow B e s v n xs
  grow : w.grownBy w' v.ownBlock
  blk : v'.ownBlock = v.ownBlock ∨ (∀ q, v'.ownBlock = some q → w.heap.size ≤ q)
theorem grown_any {w w' : World} (h : w.grownBy w' none) (r : Option Nat) : w.grownBy w' r := ⟨h.os, h.tape, h.output, h.size, fun k hk _ => h.block k hk (by simp)⟩

section
variable {P : Program}
theorem run_append_sv2 (w : World) (B t ty e : Nat) (z : Value) (s bytes : Nat) (ht : P.underlying t = some (.slice e)) (hinf : (P.info? e).map (fun i => (i.zero, i.size, i.bytes)) = some (some z, s, bytes)) (hzs : z.cells.size = s) (hsz : 0 < s)
    (v vs : Value) (n m : Nat) (xs news : List Value) (ho : w.ownsRow B e s v n xs) (hs : SV w vs m s news) (h1 : ∀ u ∈ news, u.oneCell' = true) (h63 : n + m ≤ maxLen) (hby : (n + m) * bytes ≤ 140737488355328) (hB : B ≤ w.heap.size) :
    ∃ v' w', (Builtin.append_ #[t, t] ty #[v, vs]).run P w = .ok v' w' ∧ Apd w w' B e s v v' n m xs news := by
  obtain ⟨i0, hi, hz0, hz1, hz2⟩ := info_parts hinf
  obtain ⟨hl, oa, c, rfl, g1, g2, g3, g4⟩ := hs
  cases oa with
  | none =>
    obtain ⟨rfl, rfl⟩ := g3 rfl
    have hn : news = [] := List.eq_nil_of_length_eq_zero (by omega)
    subst hn
    have := run_append_owned_none (P := P) (w := w) B t ty e i0 s ht hi v n xs ho
    exact ⟨v, w, this, by simpa using ho, ho, World.grownBy.refl _ _, Or.inl rfl⟩
  | some ad =>
    have ho0 := ho
    obtain ⟨hlx, ⟨rfl, h0⟩ | ⟨g, cap, cur, rfl, hb, hg, hc, hm, hsz', ht'⟩⟩ := ho
    · subst h0
      have hx : xs = [] := List.eq_nil_of_length_eq_zero (by omega)
      subst hx
      obtain ⟨v', w', hr, r1, r2, _⟩ := run_append_own (P := P) w w.heap.size t ty e i0 z s bytes ht hi hz0 hz1 hz2 hzs hsz (.slice none 0 0) 0 [] (World.ownsRow_nil w _ _ _) ad m c news hl (g4 ad rfl) h1 h63 hby (Nat.le_refl _)
      exact ⟨v', w', hr, row_mono r1 hB, World.ownsRow_nil _ _ _ _, r2, Or.inr fun q hq => (row_lt r1 q hq).1⟩
    · by_cases hroom : n + m ≤ cap
      · obtain ⟨w', hr, r1, r2⟩ := run_append_fits (P := P) w B t ty e i0 s ht hi hz1 g n cap xs ho0 ad m c news hl (g4 ad rfl) h1 hroom
        refine ⟨_, w', hr, r1, ?_, r2, Or.inl rfl⟩
        have := row_take r1 n (by omega)
        rwa [List.take_append_of_le_length (by omega), List.take_of_length_le (by omega)] at this
      · have hsv := own_sv ho0
        obtain ⟨_, oa, c', e', _, _, _, q4⟩ := hsv
        cases e'
        obtain ⟨v', w', hr, r1, r2⟩ := run_append_arg_grows (P := P) w t ty e i0 z s bytes ht hi hz0 hz1 hz2 hzs hsz ⟨g, 0, none⟩ n cap xs hlx (q4 _ rfl) ad m c news hl (g4 ad rfl) (by omega) h63 hby
        exact ⟨v', w', hr, row_mono r1 hB, row_keep ho0 (fun k hk => r2.block k (row_lt ho0 k hk).2 (by simp)), grown_any r2 _, Or.inr fun q hq => (row_lt r1 q hq).1⟩

theorem wpList_append_sv2 {w : World} {ops : Array Oper} {rest : List Oper} {o : Oper} {a : Act} {Q : Exit → Act → World → Prop} (hgd : o.guard = none) (x y : Operand) (t : TypeId)
    (ho : o.op = .call { callee := .builtin .append, args := #[x, y], argTypes := #[t, t] })
    (B e : Nat) (z : Value) (s bytes : Nat) (ht : P.underlying t = some (.slice e)) (hinf : (P.info? e).map (fun i => (i.zero, i.size, i.bytes)) = some (some z, s, bytes)) (hzs : z.cells.size = s) (hsz : 0 < s)
    (v vs : Value) (n m : Nat) (xs news : List Value) (ev : a.eval x = v) (evs : a.eval y = vs) (hv : w.ownsRow B e s v n xs) (hs : SV w vs m s news) (h1 : ∀ u ∈ news, u.oneCell' = true) (h63 : n + m ≤ maxLen) (hby : (n + m) * bytes ≤ 140737488355328) (hB : B ≤ w.heap.size)
    (h : ∀ v' w', Apd w w' B e s v v' n m xs news → wpList P ops Q rest (a.put o.dst v') w') : wpList P ops Q (o :: rest) a w := by
  refine wpList_plain hgd fun K hK => ?_
  obtain ⟨v', w', hr, h2⟩ := run_append_sv2 (P := P) w B t o.type e z s bytes ht hinf hzs hsz v vs n m xs news hv hs h1 h63 hby hB
  unfold Oper.wp execOp
  simp only [ho, resolve, invoke, builtin, Sem.run_bind, Sem.run_pure, Result.andThen_ok, List.map_toArray, List.map_cons, List.map_nil, ev, evs, hr]
  exact hK _ _ (h v' w' h2)
end
end Go.Proofs.YtbcclolhfogpnaaDoor.mm
