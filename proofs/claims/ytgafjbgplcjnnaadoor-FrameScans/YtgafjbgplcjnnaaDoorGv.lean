/- What outer's loops keep: rows of short lists. -/
import Derived.Test.YtgafjbgplcjnnaaDoorGu
namespace Go.Proofs.YtgafjbgplcjnnaaDoor.fr
open Go.RowKit Go.Joins

/-- A list of one byte in a block of its own. -/
def EL (w : World) (x : Value) (k : Int) : Prop := ∃ p, x = .slice (some ⟨p, 0, none⟩) 1 1 ∧ w.heap[p]? = some (.cells #[.int .u8 k] 5 (0, 0))
/-- A row of lists, the first i of them of one byte. -/
def SR (w : World) (B : Nat) (v : Value) (n i : Nat) (K : Nat → Int) : Prop := ∃ xs, w.ownsRow B 22 1 v n xs ∧ ∀ (j : Nat) (x : Value), j < i → xs[j]? = some x → EL w x (K j)
/-- But for one row of lists all that was there stays. -/
def But (g : Option Nat) (w w' : World) : Prop := ∀ q, q < w.heap.size → g ≠ some q → w'.heap[q]? = w.heap[q]?
theorem But.refl (g : Option Nat) (w : World) : But g w w := fun _ _ _ => rfl
theorem But.trans {g : Option Nat} {a b c : World} (h : But g a b) (k : But g b c) (hs : a.heap.size ≤ b.heap.size) : But g a c := fun q hq hn => (k q (by omega) hn).trans (h q hq hn)
theorem But.alloc (g : Option Nat) (w : World) (o : Obj) : But g w (w.alloc o) := fun q hq _ => Below.heap_alloc w o q hq
theorem But.grown {g : Option Nat} {w w' : World} {row : Option Nat} (h : w.grownBy w' row) (hr : ∀ k, row = some k → g = some k) : But g w w' := fun q hq hn => h.block q hq (fun z => hn (hr q z.symm))
theorem row_type {w : World} {B n : Nat} {v : Value} {xs : List Value} (h : w.ownsRow B 22 1 v n xs) : ∀ g, v.ownBlock = some g → ∃ cur, w.heap[g]? = some (.cells cur 22 (0, 0)) := by
  obtain ⟨_, ⟨rfl, _⟩ | ⟨g, cap, cur, rfl, _, hg, _⟩⟩ := h
  · intro g hg; cases hg
  · intro g' hg'; cases hg'; exact ⟨cur, hg⟩
theorem EL.keep {w w' : World} {x : Value} {k : Int} {g : Option Nat} (h : EL w x k) (hb : But g w w') (hg : ∀ q, g = some q → ∃ cur, w.heap[q]? = some (.cells cur 22 (0, 0))) : EL w' x k := by
  obtain ⟨p, e, hp⟩ := h
  refine ⟨p, e, (hb p (blk_lt hp) (fun z => ?_)).trans hp⟩
  obtain ⟨cur, hc⟩ := hg p z
  rw [hp] at hc
  cases hc
theorem SR.keep {w w' : World} {B : Nat} {v : Value} {n i : Nat} {K : Nat → Int} {g : Option Nat} (h : SR w B v n i K) (hb : But g w w') (hg : ∀ q, g = some q → ∃ cur, w.heap[q]? = some (.cells cur 22 (0, 0))) (hd : ∀ q, v.ownBlock = some q → g ≠ some q) : SR w' B v n i K := by
  obtain ⟨xs, h1, h2⟩ := h
  exact ⟨xs, row_keep h1 (fun q hq => hb q (row_lt h1 q hq).2 (hd q hq)), fun j x hj hx => (h2 j x hj hx).keep hb hg⟩
theorem row_set {w : World} {B e g n c : Nat} {xs : List Value} (h : w.ownsRow B e 1 (.slice (some ⟨g, 0, none⟩) n c) n xs) (j : Nat) (u : Value) :
    (w.setCell ⟨g, j, none⟩ u).ownsRow B e 1 (.slice (some ⟨g, 0, none⟩) n c) n (xs.set j u) := by
  obtain ⟨hl, ⟨h0, _⟩ | ⟨g', cap, cur, hv, hb, hg, hc, hm, hs, ht⟩⟩ := h
  · cases h0
  · cases hv
    refine ⟨by simpa using hl, Or.inr ⟨g, c, cur.setIfInBounds j u, rfl, hb, blk_set hg j _, hc, hm, by simpa using hs, ?_⟩⟩
    rw [Array.toList_setIfInBounds, List.take_set, ht]
theorem setBut (w : World) (g j : Nat) (u : Value) : But (some g) w (w.setCell ⟨g, j, none⟩ u) := fun q _ hn => Below.heap_setCell w _ _ q (fun z => hn (by rw [z]))
/-- One element written over. -/
theorem SR.put {w : World} {B g n c i : Nat} {K : Nat → Int} (h : SR w B (.slice (some ⟨g, 0, none⟩) n c) n i K) (k : Int) (hk : K i = k) :
    SR ((w.alloc (.cells #[.int .u8 k] 5)).setCell ⟨g, i, none⟩ (.slice (some ⟨w.heap.size, 0, none⟩) 1 1)) B (.slice (some ⟨g, 0, none⟩) n c) n (i + 1) K := by
  have h' := h.keep (But.alloc none w (.cells #[.int .u8 k] 5)) (fun q hq => by cases hq) (fun q hq z => by cases z)
  obtain ⟨xs, h1, h2⟩ := h'
  refine ⟨xs.set i (.slice (some ⟨w.heap.size, 0, none⟩) 1 1), row_set h1 i _, fun j x hj hx => ?_⟩
  have ht := row_type h1
  have hb := setBut (w.alloc (.cells #[.int .u8 k] 5)) g i (.slice (some ⟨w.heap.size, 0, none⟩) 1 1)
  have hg : ∀ q, some g = some q → ∃ cur, (w.alloc (.cells #[.int .u8 k] 5)).heap[q]? = some (.cells cur 22 (0, 0)) := fun q hq => by cases hq; exact ht g rfl
  rw [List.getElem?_set] at hx
  split at hx
  · rename_i e
    split at hx
    · cases hx
      subst e
      rw [hk]
      exact EL.keep ⟨w.heap.size, rfl, heap_alloc_new w _⟩ hb hg
    · cases hx
  · exact (h2 j x (by omega) hx).keep hb hg

/-- append of one element: in its row, where there is room; else in a new one, and then all that was there stays. -/
theorem wpList_append_el2 {w : World} {ops : Array Oper} {rest : List Oper} {o : Oper} {a : Act} {Q : Exit → Act → World → Prop} (hgd : o.guard = none) (s y : Operand)
    (ho : o.op = .call { callee := .builtin .append, args := #[s, y], argTypes := #[36, 36] })
    (w2 : World) (B : Nat) (v x : Value) (n : Nat) (xs : List Value) (hx : x.oneCell' = true) (hw : w = w2.alloc (.cells #[x] 22)) (ev : a.eval s = v) (evs : a.eval y = .slice (some ⟨w2.heap.size, 0, none⟩) 1 1)
    (h : w2.ownsRow B 22 1 v n xs) (hsz : (n + 1) * 24 ≤ 140737488355328) (hB : B ≤ w2.heap.size)
    (hq : ∀ v' w', w'.ownsRow B 22 1 v' (n + 1) (xs ++ [x]) → ((∃ g cap, v = .slice (some ⟨g, 0, none⟩) n cap ∧ v' = .slice (some ⟨g, 0, none⟩) (n + 1) cap ∧ (w2.alloc (.cells #[x] 22)).grownBy w' (some g)) ∨
      ((w2.alloc (.cells #[x] 22)).grownBy w' none ∧ ∀ q, v'.ownBlock = some q → w2.heap.size ≤ q)) → wpList Tryd.prog ops Q rest (a.put o.dst v') w') : wpList Tryd.prog ops Q (o :: rest) a w := by
  subst hw
  refine wpList_plain hgd fun K hK => ?_
  obtain ⟨i0, hi, hz0, hz1, hz2⟩ := info_parts infoS
  have hsa : (w2.alloc (.cells #[x] 22)).heap.size = w2.heap.size + 1 := World.size_alloc _ _
  have hn : ∀ (j : Nat) (u : Value), [x][j]? = some u → (w2.alloc (.cells #[x] 22)).cell? ((⟨w2.heap.size, 0, none⟩ : Addr).add j) = some u := fun j u hu => by
    match j, hu with
    | 0, hu =>
      simp only [List.getElem?_cons_zero, Option.some.injEq] at hu
      subst hu
      show World.cell? _ ⟨w2.heap.size, 0, none⟩ = _
      rw [blk_cell (heap_alloc_new w2 _)]
      rfl
  have h1c : ∀ u ∈ [x], u.oneCell' = true := fun u hu => by
    simp only [List.mem_cons, List.not_mem_nil, or_false] at hu; rw [hu]; exact hx
  have h' : (w2.alloc (.cells #[x] 22)).ownsRow B 22 1 v n xs := row_keep h (fun k q => Below.heap_alloc w2 _ k (row_lt h k q).2)
  have main : ∃ v' w', (Builtin.append_ #[36, 36] o.type #[v, .slice (some ⟨w2.heap.size, 0, none⟩) 1 1]).run Tryd.prog (w2.alloc (.cells #[x] 22)) = .ok v' w' ∧ w'.ownsRow B 22 1 v' (n + 1) (xs ++ [x]) ∧
      ((∃ g cap, v = .slice (some ⟨g, 0, none⟩) n cap ∧ v' = .slice (some ⟨g, 0, none⟩) (n + 1) cap ∧ (w2.alloc (.cells #[x] 22)).grownBy w' (some g)) ∨ ((w2.alloc (.cells #[x] 22)).grownBy w' none ∧ ∀ q, v'.ownBlock = some q → w2.heap.size ≤ q)) := by
    have h0' := h'
    obtain ⟨hl, ⟨rfl, h0⟩ | ⟨g, cap, cur, rfl, hb, hg, hc, hm, hs, ht⟩⟩ := h'
    · subst h0
      have hx0 : xs = [] := List.eq_nil_of_length_eq_zero (by simpa using hl)
      subst hx0
      obtain ⟨v', w', hr, r1, r2, _⟩ := run_append_own (P := Tryd.prog) (w2.alloc (.cells #[x] 22)) (w2.alloc (.cells #[x] 22)).heap.size 36 o.type 22 i0 (.slice none 0 0) 1 24 Tryd.underlying36 hi hz0 hz1 hz2 rfl (by decide) (.slice none 0 0) 0 [] (World.ownsRow_nil _ _ _ _) ⟨w2.heap.size, 0, none⟩ 1 1 [x] rfl hn h1c (by unfold maxLen; omega) (by omega) (Nat.le_refl _)
      exact ⟨v', w', hr, ownsRow_le r1 (by omega), Or.inr ⟨r2, fun q hq => by have := (row_lt r1 q hq).1; omega⟩⟩
    · by_cases hroom : n + 1 ≤ cap
      · obtain ⟨w', hr, r1, r2⟩ := run_append_fits (P := Tryd.prog) (w2.alloc (.cells #[x] 22)) B 36 o.type 22 i0 1 Tryd.underlying36 hi hz1 g n cap xs h0' ⟨w2.heap.size, 0, none⟩ 1 1 [x] rfl hn h1c hroom
        exact ⟨_, w', hr, r1, Or.inl ⟨g, cap, rfl, rfl, r2⟩⟩
      · obtain ⟨v', w', hr, r1, r2⟩ := run_append_arg_grows (P := Tryd.prog) (w2.alloc (.cells #[x] 22)) 36 o.type 22 i0 (.slice none 0 0) 1 24 Tryd.underlying36 hi hz0 hz1 hz2 rfl (by decide) ⟨g, 0, none⟩ n cap xs hl
          (fun j u hu => by
            rw [add0, blk_cell hg]
            have : (cur.toList.take (n * 1))[j]? = xs[j]? := by rw [ht]
            rw [List.getElem?_take, if_pos (by have := (List.getElem?_eq_some_iff.mp hu).1; omega), hu] at this
            simpa using this)
          ⟨w2.heap.size, 0, none⟩ 1 1 [x] rfl hn (by omega) (by unfold maxLen; omega) (by omega)
        exact ⟨v', w', hr, ownsRow_le r1 (by omega), Or.inr ⟨r2, fun q hq => by have := (row_lt r1 q hq).1; omega⟩⟩
  obtain ⟨v', w', hr, g1, g2⟩ := main
  unfold Oper.wp execOp
  simp only [ho, resolve, invoke, builtin, Sem.run_bind, Sem.run_pure, Result.andThen_ok, List.map_toArray, List.map_cons, List.map_nil, ev, evs, hr]
  exact hK _ _ (hq v' w' g1 g2)

/-- A row that is made longer, and the old one. -/
structure XS (w0 : World) (B : Nat) (av xv : Value) (n k : Nat) (Ka Kx : Int) (wq : World) : Prop where
  a1 : SR wq B av n n (fun _ => Ka)
  x1 : SR wq B xv (n + k) (n + k) (fun j => if j < n then Ka else Kx)
  x2 : (∃ g c, av = .slice (some ⟨g, 0, none⟩) n c ∧ xv = .slice (some ⟨g, 0, none⟩) (n + k) c) ∨ (∀ q, xv.ownBlock = some q → w0.heap.size ≤ q)
  x3 : But av.ownBlock w0 wq
  x4 : Below B w0 wq
  x5 : ∀ q, av.ownBlock = some q → q < w0.heap.size
theorem row_pre {w : World} {B g n m c : Nat} {xs : List Value} (h : w.ownsRow B 22 1 (.slice (some ⟨g, 0, none⟩) (n + m) c) (n + m) xs) : w.ownsRow B 22 1 (.slice (some ⟨g, 0, none⟩) n c) n (xs.take n) := by
  obtain ⟨hl, ⟨h0, _⟩ | ⟨g', cap, cur, hv, hb, hg, hc, hm, hs, ht⟩⟩ := h
  · cases h0
  · cases hv
    refine ⟨by rw [List.length_take]; omega, Or.inr ⟨g, c, cur, rfl, hb, hg, by omega, hm, hs, ?_⟩⟩
    rw [← ht, List.take_take, Nat.min_eq_left (by omega), Nat.mul_one]
theorem XS.step {w0 : World} {B : Nat} {av xv : Value} {n k : Nat} {Ka Kx : Int} {wq : World} (S : XS w0 B av xv n k Ka Kx wq) (hB : B ≤ w0.heap.size) {xs : List Value} (hxs : wq.ownsRow B 22 1 xv (n + k) xs)
    (hel : ∀ (j : Nat) (x : Value), j < n + k → xs[j]? = some x → EL wq x (if j < n then Ka else Kx)) {v' : Value} {w' : World} (hr : w'.ownsRow B 22 1 v' (n + k + 1) (xs ++ [.slice (some ⟨wq.heap.size, 0, none⟩) 1 1]))
    (hd : (∃ g cap, xv = .slice (some ⟨g, 0, none⟩) (n + k) cap ∧ v' = .slice (some ⟨g, 0, none⟩) (n + k + 1) cap ∧ ((wq.alloc (.cells #[.int .u8 Kx] 5)).alloc (.cells #[.slice (some ⟨wq.heap.size, 0, none⟩) 1 1] 22)).grownBy w' (some g)) ∨
      (((wq.alloc (.cells #[.int .u8 Kx] 5)).alloc (.cells #[.slice (some ⟨wq.heap.size, 0, none⟩) 1 1] 22)).grownBy w' none ∧ ∀ q, v'.ownBlock = some q → (wq.alloc (.cells #[.int .u8 Kx] 5)).heap.size ≤ q)) : XS w0 B av v' n (k + 1) Ka Kx w' := by
  have hs0 := S.x4.size
  generalize hW : (wq.alloc (.cells #[.int .u8 Kx] 5)).alloc (.cells #[.slice (some ⟨wq.heap.size, 0, none⟩) 1 1] 22) = W at hd
  have hal : ∀ g, But g wq W := fun g => by rw [← hW]; exact (But.alloc g wq _).trans (But.alloc g _ _) (by rw [World.size_alloc]; omega)
  have hWs : W.heap.size = wq.heap.size + 2 := by rw [← hW, World.size_alloc, World.size_alloc]
  have hnew : W.heap[wq.heap.size]? = some (.cells #[.int .u8 Kx] 5 (0, 0)) := by
    rw [← hW, Below.heap_alloc _ _ _ (by rw [World.size_alloc]; omega)]; exact heap_alloc_new wq _
  have ht := row_type hxs
  obtain ⟨row, hgr, hrow⟩ : ∃ row : Option Nat, W.grownBy w' row ∧ ∀ g, row = some g → xv.ownBlock = some g ∧ ∃ cap, xv = .slice (some ⟨g, 0, none⟩) (n + k) cap ∧ v' = .slice (some ⟨g, 0, none⟩) (n + k + 1) cap := by
    rcases hd with ⟨g, cap, e1, e2, e3⟩ | ⟨e, _⟩
    · exact ⟨some g, e3, fun q hq => by cases hq; exact ⟨by rw [e1]; rfl, cap, e1, e2⟩⟩
    · exact ⟨none, e, fun q hq => by cases hq⟩
  have hbut : But row wq w' := (hal row).trans (fun q hq hn => hgr.block q hq (fun z => hn z.symm)) (by omega)
  have hty : ∀ q, row = some q → ∃ cur, wq.heap[q]? = some (.cells cur 22 (0, 0)) := fun q hq => ht q (hrow q hq).1
  have hel' : ∀ (j : Nat) (x : Value), j < n + (k + 1) → (xs ++ [.slice (some ⟨wq.heap.size, 0, none⟩) 1 1])[j]? = some x → EL w' x (if j < n then Ka else Kx) := fun j x hj hx => by
    have hxl : xs.length = n + k := by have := hxs.1; omega
    rcases Nat.lt_or_ge j (n + k) with q | q
    · rw [List.getElem?_append_left (by omega)] at hx
      exact (hel j x q hx).keep hbut hty
    · obtain rfl : j = n + k := by omega
      rw [List.getElem?_append_right (by omega), hxl, Nat.sub_self] at hx
      cases hx
      rw [if_neg (by omega)]
      refine ⟨wq.heap.size, rfl, ?_⟩
      rw [hgr.block _ (by omega) (fun z => by obtain ⟨cur, hc⟩ := hty _ z.symm; have := blk_lt hc; omega)]
      exact hnew
  refine ⟨?_, ⟨_, hr, hel'⟩, ?_, ?_, ?_, S.x5⟩
  · by_cases hc : ∃ q, row = some q ∧ av.ownBlock = some q
    · obtain ⟨q, c1, c2⟩ := hc
      obtain ⟨z1, cap, z2, z3⟩ := hrow q c1
      rcases S.x2 with ⟨g, cc, e1, e2⟩ | e
      · rw [z2] at e2
        cases e2
        rw [e1]
        rw [z3] at hr
        have hr2 := row_pre (n := n) (m := k + 1) hr
        refine ⟨_, hr2, fun j x hj hx => ?_⟩
        rw [List.getElem?_take, if_pos hj] at hx
        have := hel' j x (by omega) hx
        rwa [if_pos hj] at this
      · have := e q z1; have := S.x5 q c2; omega
    · exact S.a1.keep hbut hty (fun q hq z => hc ⟨q, z, hq⟩)
  · rcases hd with ⟨g, cap, e1, e2, e3⟩ | ⟨_, e⟩
    · rcases S.x2 with ⟨g', cc, z1, z2⟩ | z
      · rw [e1] at z2
        cases z2
        exact Or.inl ⟨g, cap, z1, e2⟩
      · exact Or.inr (fun q hq => by rw [e2] at hq; cases hq; exact z g (by rw [e1]; rfl))
    · exact Or.inr (fun q hq => by have := e q hq; rw [World.size_alloc] at this; omega)
  · intro q hq hn
    rw [hbut q (by omega) (fun z => ?_)]
    · exact S.x3 q hq hn
    · obtain ⟨z1, _⟩ := hrow q z
      rcases S.x2 with ⟨g, cc, e1, e2⟩ | e
      · rw [e2] at z1; cases z1; exact hn (by rw [e1]; rfl)
      · have := e q z1; omega
  · refine S.x4.trans ⟨hgr.os.trans (by rw [← hW]; rfl), hgr.tape.trans (by rw [← hW]; rfl), hgr.output.trans (by rw [← hW]; rfl), by have := hgr.size; omega, fun q hq => ?_⟩
    exact hbut q (by omega) (fun z => by have := (row_lt hxs q (hrow q z).1).1; omega)

end Go.Proofs.YtgafjbgplcjnnaaDoor.fr
