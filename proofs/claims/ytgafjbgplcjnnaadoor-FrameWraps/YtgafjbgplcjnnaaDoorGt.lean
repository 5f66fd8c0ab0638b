/- What apart's loops keep. -/
import Derived.Test.YtgafjbgplcjnnaaDoorGr
namespace Go.Proofs.YtgafjbgplcjnnaaDoor.fr
open Go.RowKit Go.Joins

def b1 (i : Nat) : UInt8 := UInt8.ofNat (7 * i + 1)
def b4 (i : Nat) : UInt8 := UInt8.ofNat (7 * i + 4)
theorem b1_wrap (i : Nat) : IntKind.u8.wrap (7 * (i : Int) + 1) = ((b1 i).toNat : Int) := by
  rw [show 7 * (i : Int) + 1 = ((7 * i + 1 : Nat) : Int) by omega, u8_wrap]; simp [b1]
theorem b4_wrap (i : Nat) : IntKind.u8.wrap (7 * (i : Int) + 4) = ((b4 i).toNat : Int) := by
  rw [show 7 * (i : Int) + 4 = ((7 * i + 4 : Nat) : Int) by omega, u8_wrap]; simp [b4]
/-- The first i rows are written over. -/
def f1 (i : Nat) (j : Nat) (l : List UInt8) : List UInt8 := if j < i then List.replicate l.length (b1 j) else l
/-- .. and k of the next one. -/
def f2 (i k : Nat) (j : Nat) (l : List UInt8) : List UInt8 := if j < i then List.replicate l.length (b1 j) else if j = i then List.replicate k (b1 i) ++ l.drop k else l
theorem f1_length (i j : Nat) (l : List UInt8) : (f1 i j l).length = l.length := by unfold f1; split <;> simp
theorem f2_start (i j : Nat) (l : List UInt8) : f1 i j l = f2 i 0 j l := by
  unfold f1 f2; split
  · rfl
  · split <;> simp
theorem f2_end (i j : Nat) (l : List UInt8) (k : Nat) (h : j = i → l.length = k) : f2 i k j l = f1 (i + 1) j l := by
  unfold f1 f2
  by_cases h1 : j < i
  · rw [if_pos h1, if_pos (by omega)]
  · rw [if_neg h1]
    by_cases h2 : j = i
    · rw [if_pos h2, if_pos (by omega), ← h h2, h2]; simp
    · rw [if_neg h2, if_neg (by omega)]
theorem f2_far (i k j : Nat) (l : List UInt8) (h : j ≠ i) : f2 i (k + 1) j l = f2 i k j l := by
  unfold f2; rw [if_neg h, if_neg h]
theorem f2_set (i k : Nat) (l : List UInt8) (h : k < l.length) : f2 i (k + 1) i l = (f2 i k i l).set k (b1 i) := by
  unfold f2
  rw [if_neg (Nat.lt_irrefl _), if_pos rfl, if_neg (Nat.lt_irrefl _), if_pos rfl]
  rw [List.set_append_right k _ (by simp), List.length_replicate, Nat.sub_self, List.drop_eq_getElem_cons h, List.set_cons_zero, List.replicate_succ']
  simp


/-- The longer ones, so far. -/
structure LG (w : World) (B F0 : Nat) (vs : List Value) (ls : List (List UInt8)) (i : Nat) (lv : Value) (xs : List Value) : Prop where
  row : w.ownsRow B 22 1 lv i xs
  len : xs.length = i
  own : ∀ (j : Nat) (x : Value) (l : List UInt8), xs[j]? = some x → ls[j]? = some l → OB w B x (List.replicate l.length (b1 j) ++ List.replicate 20 (b4 j))
  blk : ∀ (j : Nat) (x y : Value) (k : Nat), xs[j]? = some x → vs[j]? = some y → x.ownBlock = some k → y.ownBlock = some k ∨ F0 ≤ k
  new : ∀ k, lv.ownBlock = some k → F0 ≤ k
  sep : ∀ (j : Nat) (x : Value) (k : Nat), xs[j]? = some x → x.ownBlock = some k → lv.ownBlock ≠ some k
theorem LG.nil (w : World) (B F0 : Nat) (vs : List Value) (ls : List (List UInt8)) : LG w B F0 vs ls 0 (.slice none 0 0) [] :=
  ⟨World.ownsRow_nil _ _ _ _, rfl, (fun j x l h => by simp at h), (fun j x y k h => by simp at h), (fun k h => by cases h), fun j x k h => by simp at h⟩
/-- What lies in no row stays. -/
def Oth (w w' : World) (vs : List Value) : Prop := ∀ q, q < w.heap.size → (∀ (j : Nat) (x : Value), vs[j]? = some x → x.ownBlock ≠ some q) → w'.heap[q]? = w.heap[q]?
/-- What stays while a row is made longer. -/
structure C4 (B F0 Fi : Nat) (vs : List Value) (ls : List (List UInt8)) (oa : Option Addr) (i n : Nat) (l : List UInt8) (lv : Value) (xs : List Value) (yv : Value) : Prop where
  hy : vs[i]? = some yv
  hl : ls[i]? = some l
  ds : DS vs
  v0 : ∀ (j : Nat) (y : Value) (k : Nat), vs[j]? = some y → y.ownBlock = some k → k < F0
  p1 : ∀ k, lv.ownBlock = some k → k < Fi
  p2 : ∀ (j : Nat) (x : Value) (k : Nat), xs[j]? = some x → x.ownBlock = some k → k < Fi
  le : F0 ≤ Fi
  aw : AW oa vs
  ho : ∀ a, oa = some a → a.block < F0
  bf : B ≤ F0
  xl : xs.length = i
  vl : vs.length = ls.length
  ni : i < n
structure S4 (w : World) (B F0 Fi : Nat) (vs : List Value) (ls : List (List UInt8)) (oa : Option Addr) (i n k : Nat) (l : List UInt8) (lv : Value) (xs : List Value) (yv xv : Value) (wq : World) : Prop where
  x1 : OB wq B xv (List.replicate l.length (b1 i) ++ List.replicate k (b4 i))
  x2 : (∃ g cc, yv = .slice (some ⟨g, 0, none⟩) l.length cc ∧ xv = .slice (some ⟨g, 0, none⟩) (l.length + k) cc) ∨ (∀ q, xv.ownBlock = some q → Fi ≤ q)
  x3 : RF wq B vs ls (f1 n)
  x4 : LG wq B F0 vs ls i lv xs
  x5 : HD wq oa vs
  x6 : Below B w wq
  x7 : Fi ≤ wq.heap.size
  x8 : Oth w wq vs
  x9 : w.heap.size ≤ F0
theorem OB.pre {w : World} {B g n m c c' : Nat} {l r : List UInt8} (h : OB w B (.slice (some ⟨g, 0, none⟩) n c) (l ++ r)) (hm : m = l.length) (hc : c' = c) : OB w B (.slice (some ⟨g, 0, none⟩) m c') l := by
  subst hm hc
  obtain ⟨hl, ⟨h0, _⟩ | ⟨g', cap, cur, hv, hb, hg, hcc, hmm, hs, ht⟩⟩ := h
  · cases h0
  · cases hv
    rw [List.length_append] at hcc ht
    refine ⟨by simp, Or.inr ⟨g, _, cur, rfl, hb, hg, by omega, hmm, hs, ?_⟩⟩
    have := congrArg (List.take (l.length * 1)) ht
    rw [List.take_take, Nat.min_eq_left (by omega), List.map_append, List.take_left' (by simp)] at this
    exact this
theorem S4.step {w : World} {B F0 Fi : Nat} {vs : List Value} {ls : List (List UInt8)} {oa : Option Addr} {i n k : Nat} {l : List UInt8} {lv : Value} {xs : List Value} {yv xv : Value} {wq : World} (C : C4 B F0 Fi vs ls oa i n l lv xs yv)
    (S : S4 w B F0 Fi vs ls oa i n k l lv xs yv xv wq) {o : Obj} {v' : Value} {w2 : World} (h2 : OB w2 B v' ((List.replicate l.length (b1 i) ++ List.replicate k (b4 i)) ++ [b4 i]))
    (h3 : (∃ g cap, xv = .slice (some ⟨g, 0, none⟩) (List.replicate l.length (b1 i) ++ List.replicate k (b4 i)).length cap ∧ v' = .slice (some ⟨g, 0, none⟩) ((List.replicate l.length (b1 i) ++ List.replicate k (b4 i)).length + 1) cap ∧ (wq.alloc o).grownBy w2 (some g)) ∨
      ((wq.alloc o).grownBy w2 none ∧ ∀ q, v'.ownBlock = some q → (wq.alloc o).heap.size ≤ q)) : S4 w B F0 Fi vs ls oa i n (k + 1) l lv xs yv v' w2 := by
  have hlen : (List.replicate l.length (b1 i) ++ List.replicate k (b4 i)).length = l.length + k := by simp
  have hxb : ∀ q, xv.ownBlock = some q → q < wq.heap.size := S.x1.lt
  have hsa : (wq.alloc o).heap.size = wq.heap.size + 1 := World.size_alloc _ _
  have h2' : OB w2 B v' (List.replicate l.length (b1 i) ++ List.replicate (k + 1) (b4 i)) := by rw [List.replicate_succ', ← List.append_assoc]; exact h2
  have hfy : f1 n i l = List.replicate l.length (b1 i) := by unfold f1; rw [if_pos C.ni]
  rw [hlen] at h3
  -- the block that may have been written
  obtain ⟨row, hgr, hrow, hx2⟩ : ∃ row : Option Nat, (wq.alloc o).grownBy w2 row ∧ (∀ g, row = some g → (xv.ownBlock = some g ∧ ((∃ cc, yv = .slice (some ⟨g, 0, none⟩) l.length cc ∧ v' = .slice (some ⟨g, 0, none⟩) (l.length + (k + 1)) cc) ∨ Fi ≤ g))) ∧
      ((∃ g cc, yv = .slice (some ⟨g, 0, none⟩) l.length cc ∧ v' = .slice (some ⟨g, 0, none⟩) (l.length + (k + 1)) cc) ∨ (∀ q, v'.ownBlock = some q → Fi ≤ q)) := by
    rcases h3 with ⟨g, cap, e1, e2, e3⟩ | ⟨e1, e2⟩
    · rcases S.x2 with ⟨g', cc, z1, z2⟩ | z
      · rw [e1] at z2
        cases z2
        exact ⟨some g, e3, fun q hq => by cases hq; exact ⟨by rw [e1]; rfl, Or.inl ⟨cap, z1, e2⟩⟩, Or.inl ⟨g, cap, z1, e2⟩⟩
      · have hg : Fi ≤ g := z g (by rw [e1]; rfl)
        exact ⟨some g, e3, fun q hq => by cases hq; exact ⟨by rw [e1]; rfl, Or.inr hg⟩, Or.inr (fun q hq => by rw [e2] at hq; cases hq; exact hg)⟩
    · exact ⟨none, e1, (fun q hq => by cases hq), Or.inr (fun q hq => by have := e2 q hq; have := S.x7; omega)⟩
  have keep : ∀ q, q < wq.heap.size → row ≠ some q → w2.heap[q]? = wq.heap[q]? := fun q hq hne => (hgr.block q (by omega) (fun z => hne z.symm)).trans (Below.heap_alloc wq o q hq)
  have far : ∀ q, q < Fi → (∀ y, vs[i]? = some y → y.ownBlock ≠ some q) → row ≠ some q := fun q hq hy z => by
    obtain ⟨_, ⟨cc, e1, _⟩ | e⟩ := hrow q z
    · exact hy yv C.hy (by rw [e1]; rfl)
    · omega
  refine ⟨h2', hx2, fun j y lj hy hlj => ?_, ⟨?_, S.x4.len, fun j x lj hx hlj => ?_, S.x4.blk, S.x4.new, S.x4.sep⟩, ?_, ?_, ?_, fun q hq hn => ?_, S.x9⟩
  · have ob := S.x3 j y lj hy hlj
    by_cases e : j = i
    · subst e
      cases C.hy.symm.trans hy
      cases C.hl.symm.trans hlj
      by_cases hr : ∃ q, row = some q ∧ yv.ownBlock = some q
      · obtain ⟨q, r1, r2⟩ := hr
        obtain ⟨_, ⟨cc, e1, e2⟩ | e⟩ := hrow q r1
        · rw [hfy, e1]
          rw [e2] at h2'
          exact h2'.pre (by simp) rfl
        · have := C.v0 j yv q C.hy r2; have := C.le; omega
      · exact row_keep ob (fun q hq => keep q (ob.lt q hq) (fun z => hr ⟨q, z, hq⟩))
    · exact row_keep ob (fun q hq => keep q (ob.lt q hq) (far q (by have := C.v0 j y q hy hq; have := C.le; omega) (fun y' hy' => C.ds j i y y' q e hy hy' hq)))
  · exact row_keep S.x4.row (fun q hq => keep q (row_lt S.x4.row q hq).2 (far q (C.p1 q hq) (fun y hy z => by have := C.v0 i y q hy z; have := S.x4.new q hq; omega)))
  · have ob := S.x4.own j x lj hx hlj
    have hji : j < i := by have := (List.getElem?_eq_some_iff.mp hx).1; rw [C.xl] at this; exact this
    refine row_keep ob (fun q hq => keep q (ob.lt q hq) (far q (C.p2 j x q hx hq) (fun y hy z => ?_)))
    obtain ⟨yj, hyj⟩ : ∃ y, vs[j]? = some y := ⟨_, List.getElem?_eq_getElem (by have := (List.getElem?_eq_some_iff.mp hlj).1; rw [C.vl]; exact this)⟩
    rcases S.x4.blk j x yj q hx hyj hq with b | b
    · exact C.ds j i yj y q (by omega) hyj hy b z
    · have := C.v0 i y q hy z; omega
  · exact S.x5.far (fun a ha hlt => keep _ hlt (far _ (by have := C.ho a ha; have := C.le; omega) (fun y hy z => C.aw a ha i y _ hy z rfl)))
  · refine S.x6.trans ⟨hgr.os, hgr.tape, hgr.output, by have := hgr.size; omega, fun q hq => ?_⟩
    have hb : B ≤ wq.heap.size := by have := C.bf; have := C.le; have := S.x7; omega
    exact keep q (by omega) (fun z => by obtain ⟨e, _⟩ := hrow q z; have := S.x1.ge q e; omega)
  · have := hgr.size; have := S.x7; omega
  · have h9 := S.x9
    have hle := C.le
    have h7 := S.x7
    rw [keep q (by omega) (far q (by omega) (fun y hy => hn i y hy))]
    exact S.x8 q hq hn

/-- What is kept from row to row. -/
structure S3 (w : World) (B F0 : Nat) (vs : List Value) (ls : List (List UInt8)) (oa : Option Addr) (n i : Nat) (lv : Value) (xs : List Value) (wr : World) : Prop where
  x3 : RF wr B vs ls (f1 n)
  x4 : LG wr B F0 vs ls i lv xs
  x5 : HD wr oa vs
  x6 : Below B w wr
  x7 : F0 ≤ wr.heap.size
  x8 : Oth w wr vs
  x9 : w.heap.size ≤ F0
theorem S4.push {w : World} {B F0 Fi : Nat} {vs : List Value} {ls : List (List UInt8)} {oa : Option Addr} {i n : Nat} {l : List UInt8} {lv : Value} {xs : List Value} {yv xv : Value} {wq : World} (C : C4 B F0 Fi vs ls oa i n l lv xs yv)
    (S : S4 w B F0 Fi vs ls oa i n 20 l lv xs yv xv wq) {o : Obj} {v' : Value} {w4 : World} (hr : w4.ownsRow B 22 1 v' (i + 1) (xs ++ [xv])) (hg : (wq.alloc o).grownBy w4 lv.ownBlock) (hd : v'.ownBlock = lv.ownBlock ∨ v'.ownBlock = some (wq.heap.size + 1)) :
    S3 w B F0 vs ls oa n (i + 1) v' (xs ++ [xv]) w4 := by
  have hsa : (wq.alloc o).heap.size = wq.heap.size + 1 := World.size_alloc _ _
  have keep : ∀ q, q < wq.heap.size → lv.ownBlock ≠ some q → w4.heap[q]? = wq.heap[q]? := fun q hq hne => (hg.block q (by omega) (fun z => hne z.symm)).trans (Below.heap_alloc wq o q hq)
  have hx : ∀ q, xv.ownBlock = some q → lv.ownBlock ≠ some q := fun q hq z => by
    rcases S.x2 with ⟨g, cc, e1, e2⟩ | e
    · have h1 : yv.ownBlock = some q := by rw [e2] at hq; rw [e1]; exact hq
      have := C.v0 i yv q C.hy h1
      have := S.x4.new q z
      omega
    · have := e q hq; have := C.p1 q z; omega
  have cs : ∀ (j : Nat) (x : Value), (xs ++ [xv])[j]? = some x → (j < i ∧ xs[j]? = some x) ∨ (j = i ∧ x = xv) := fun j x hx => by
    rcases Nat.lt_or_ge j xs.length with hj | hj
    · rw [List.getElem?_append_left hj] at hx; exact Or.inl ⟨by rw [← C.xl]; exact hj, hx⟩
    · rw [List.getElem?_append_right hj] at hx
      have h0 : j - xs.length = 0 := by
        rcases Nat.eq_zero_or_pos (j - xs.length) with q | q
        · exact q
        · rw [List.getElem?_eq_none (by simp; omega)] at hx; cases hx
      rw [h0] at hx
      cases hx
      exact Or.inr ⟨by have := C.xl; omega, rfl⟩
  have sp : ∀ (j : Nat) (x : Value) (k : Nat), (xs ++ [xv])[j]? = some x → x.ownBlock = some k → lv.ownBlock ≠ some k ∧ k < wq.heap.size := fun j x k hj hk => by
    rcases cs j x hj with ⟨a, b⟩ | ⟨_, b⟩
    · obtain ⟨lj, hlj⟩ : ∃ l, ls[j]? = some l := ⟨_, List.getElem?_eq_getElem (by have := (List.getElem?_eq_some_iff.mp C.hl).1; omega)⟩
      exact ⟨S.x4.sep j x k b hk, (S.x4.own j x lj b hlj).lt k hk⟩
    · subst b; exact ⟨hx k hk, S.x1.lt k hk⟩
  refine ⟨fun j y lj hy hlj => ?_, ⟨hr, by rw [List.length_append, C.xl]; rfl, fun j x lj hxj hlj => ?_, fun j x y k hxj hyj hk => ?_, fun k hk => ?_, fun j x k hxj hk => ?_⟩, ?_, ?_, ?_, fun q hq hn => ?_, S.x9⟩
  · have ob := S.x3 j y lj hy hlj
    exact row_keep ob (fun q hq => keep q (ob.lt q hq) (fun z => by have := C.v0 j y q hy hq; have := S.x4.new q z; omega))
  · rcases cs j x hxj with ⟨a, b⟩ | ⟨a, b⟩
    · have ob := S.x4.own j x lj b hlj
      exact row_keep ob (fun q hq => keep q (ob.lt q hq) (S.x4.sep j x q b hq))
    · subst a b
      cases C.hl.symm.trans hlj
      exact row_keep S.x1 (fun q hq => keep q (S.x1.lt q hq) (hx q hq))
  · rcases cs j x hxj with ⟨a, b⟩ | ⟨a, b⟩
    · exact S.x4.blk j x y k b hyj hk
    · subst a b
      cases C.hy.symm.trans hyj
      rcases S.x2 with ⟨g, cc, e1, e2⟩ | e
      · left; rw [e2] at hk; rw [e1]; exact hk
      · right; have := e k hk; have := C.le; omega
  · rcases hd with hd | hd
    · rw [hd] at hk; exact S.x4.new k hk
    · rw [hd] at hk; cases hk; have := S.x7; have := C.le; omega
  · obtain ⟨s1, s2⟩ := sp j x k hxj hk
    rcases hd with hd | hd
    · rw [hd]; exact s1
    · rw [hd]; intro z; cases z; omega
  · exact S.x5.far (fun a ha hlt => keep _ hlt (fun z => by have := C.ho a ha; have := S.x4.new _ z; omega))
  · refine S.x6.trans ⟨hg.os, hg.tape, hg.output, by have := hg.size; omega, fun q hq => ?_⟩
    exact keep q (by have := C.bf; have := C.le; have := S.x7; omega) (fun z => by have := S.x4.new q z; have := C.bf; omega)
  · have := hg.size; have := S.x7; have := C.le; omega
  · have h9 := S.x9
    have hle := C.le
    have h7 := S.x7
    rw [keep q (by omega) (fun z => by have := S.x4.new q z; omega)]
    exact S.x8 q hq hn

theorem wpList_append_el {w : World} {ops : Array Oper} {rest : List Oper} {o : Oper} {a : Act} {Q : Exit → Act → World → Prop} (hgd : o.guard = none) (s y : Operand)
    (ho : o.op = .call { callee := .builtin .append, args := #[s, y], argTypes := #[36, 36] })
    (w2 : World) (B : Nat) (v x : Value) (n : Nat) (xs : List Value) (hx : x.oneCell' = true) (hw : w = w2.alloc (.cells #[x] 22)) (ev : a.eval s = v) (evs : a.eval y = .slice (some ⟨w2.heap.size, 0, none⟩) 1 1)
    (h : w2.ownsRow B 22 1 v n xs) (hsz : (n + 1) * 24 ≤ 140737488355328) (hB : B ≤ w2.heap.size)
    (hq : ∀ v' w', w'.ownsRow B 22 1 v' (n + 1) (xs ++ [x]) → (w2.alloc (.cells #[x] 22)).grownBy w' v.ownBlock → (v'.ownBlock = v.ownBlock ∨ v'.ownBlock = some (w2.heap.size + 1)) → wpList Tryd.prog ops Q rest (a.put o.dst v') w') : wpList Tryd.prog ops Q (o :: rest) a w := by
  subst hw
  refine wpList_plain hgd fun K hK => ?_
  obtain ⟨i0, hi, hz0, hz1, hz2⟩ := info_parts infoS
  have hsa : (w2.alloc (.cells #[x] 22)).heap.size = w2.heap.size + 1 := World.size_alloc _ _
  obtain ⟨v', w4, hr, g1, g2, _, g4⟩ := run_append_own_at (P := Tryd.prog) (w2.alloc (.cells #[x] 22)) B 36 o.type 22 i0 (.slice none 0 0) 1 24 Tryd.underlying36 hi hz0 hz1 hz2 rfl (by decide) v n xs
    (row_keep h (fun k q => Below.heap_alloc w2 _ k (row_lt h k q).2)) ⟨w2.heap.size, 0, none⟩ 1 1 [x] rfl
    (fun j u hu => by
      match j, hu with
      | 0, hu =>
        simp only [List.getElem?_cons_zero, Option.some.injEq] at hu
        subst hu
        show World.cell? _ ⟨w2.heap.size, 0, none⟩ = _
        rw [blk_cell (heap_alloc_new w2 _)]
        rfl)
    (fun u hu => by
      simp only [List.mem_cons, List.not_mem_nil, or_false] at hu
      rw [hu]; exact hx)
    (by unfold maxLen; omega) (by omega) (by rw [hsa]; omega)
  unfold Oper.wp execOp
  simp only [ho, resolve, invoke, builtin, Sem.run_bind, Sem.run_pure, Result.andThen_ok, List.map_toArray, List.map_cons, List.map_nil, ev, evs, hr]
  exact hK _ _ (hq v' w4 g1 g2 (by rw [← hsa]; exact g4))

end Go.Proofs.YtgafjbgplcjnnaaDoor.fr
