/- DiskPlays' owner: takes. -/
import Derived.Test.YtbcclolhfogpnaaDoorYt
import Derived.Deep.DeepCutAuto
import Derived.Deep.Cut
namespace Go.Proofs.YtbcclolhfogpnaaDoor.dk
open Go.RowKit mm

theorem blk_frz {w : World} {g : Nat} {cs : Array Value} {t : TypeId} (h : w.heap[g]? = some (.cells cs t (0, 0))) (j : Nat) : w.frozen? ⟨g, j, none⟩ = false := by
  simp [World.frozen?, h]
theorem rep_next (M : List UInt8) (n i : Nat) (m : UInt8) (h : M.take i = List.replicate i m) (hM : M.length = n) (hi : i < n) : (M.set i m).take (i + 1) = List.replicate (i + 1) m := by
  rw [List.take_add_one, List.take_set_of_le (Nat.le_refl _), h, List.getElem?_set_self (by omega), List.replicate_succ']
  rfl

/-- Of what was there the blocks of S alone may have changed. -/
structure Ch (S : Bl) (w w' : World) : Prop where
  os : w'.os = w.os
  tape : w'.tape = w.tape
  output : w'.output = w.output
  size : w.heap.size ≤ w'.heap.size
  block : ∀ k, k < w.heap.size → ¬ S k → w'.heap[k]? = w.heap[k]?
theorem Ch.refl (S : Bl) (w : World) : Ch S w w := ⟨rfl, rfl, rfl, Nat.le_refl _, fun _ _ _ => rfl⟩
theorem Ch.trans {S : Bl} {w w' w'' : World} (h : Ch S w w') (k : Ch S w' w'') : Ch S w w'' :=
  ⟨k.os.trans h.os, k.tape.trans h.tape, k.output.trans h.output, Nat.le_trans h.size k.size, fun i hi hn => (k.block i (by have := h.size; omega) hn).trans (h.block i hi hn)⟩
theorem Ch.mono {S S' : Bl} {w w' : World} (h : Ch S w w') (hS : ∀ k, S k → S' k) : Ch S' w w' := ⟨h.os, h.tape, h.output, h.size, fun k hk hn => h.block k hk (fun q => hn (hS k q))⟩
theorem Ch.drewN (S : Bl) (w : World) (n : Nat) : Ch S w (w.drewN n) := ⟨rfl, rfl, rfl, Nat.le_refl _, fun _ _ _ => rfl⟩
theorem Ch.al (S : Bl) (w : World) (o : Obj) : Ch S w (w.alloc o) := by
  have := (Below.refl w.heap.size w).alloc (Nat.le_refl _) o
  exact ⟨this.os, this.tape, this.output, this.size, fun k hk _ => this.block k hk⟩
theorem Ch.set (S : Bl) (w : World) (g j : Nat) (x : Value) (hS : S g) : Ch S w (w.setCell ⟨g, j, none⟩ x) := by
  have := Upd.setCell g j w x
  exact ⟨this.os, this.tape, this.output, Nat.le_of_eq this.size.symm, fun k _ hn => this.block k (fun q => hn (by rw [q]; exact hS))⟩
theorem Ch.apd {S : Bl} {w w' : World} {B e s : Nat} {v v' : Value} {n m : Nat} {xs news : List Value} (h : Apd w w' B e s v v' n m xs news) (hS : ∀ k, v.ownBlock = some k → S k) : Ch S w w' :=
  ⟨h.grow.os, h.grow.tape, h.grow.output, h.grow.size, fun k hk hn => h.grow.block k hk (fun q => hn (hS k q.symm))⟩
theorem rows_same {w : World} {B e s n m g c d : Nat} {xs ys : List Value} (h : w.ownsRow B e s (.slice (some ⟨g, 0, none⟩) n c) n xs) (k : w.ownsRow B e s (.slice (some ⟨g, 0, none⟩) m d) m ys) (hs : 0 < s) : c = d := by
  obtain ⟨_, ⟨q, _⟩ | ⟨g1, c1, cur1, q1, _, b1, _, _, z1, _⟩⟩ := h
  · cases q
  obtain ⟨_, ⟨q, _⟩ | ⟨g2, c2, cur2, q2, _, b2, _, _, z2, _⟩⟩ := k
  · cases q
  cases q1
  cases q2
  rw [b1] at b2
  cases b2
  exact Nat.eq_of_mul_eq_mul_right hs (by omega)
/-- A row that an append leaves as it was: it lies elsewhere, or is a beginning of the one that grew. -/
theorem apd_keep {w w' : World} {B : Nat} {x x' hv : Value} {n k : Nat} {m : UInt8} {news : List Value} (A : Apd w w' B 5 1 x x' (n + k) 1 ((List.replicate (n + k) m).map vb) news) (hx : OY w B x (List.replicate (n + k) m)) (h : OY w B hv (List.replicate n m)) : OY w' B hv (List.replicate n m) := by
  by_cases hs : ∃ q, hv.ownBlock = some q ∧ x.ownBlock = some q
  · obtain ⟨q, h1, h2⟩ := hs
    have hx' : OY w B x (List.replicate (n + k) m) := hx
    have hh' : OY w B hv (List.replicate n m) := h
    obtain ⟨l1, ⟨e1, _⟩ | ⟨g1, c1, cur1, rfl, r1⟩⟩ := h
    · rw [e1] at h1; cases h1
    obtain ⟨l2, ⟨e2, _⟩ | ⟨g2, c2, cur2, rfl, r2⟩⟩ := hx
    · rw [e2] at h2; cases h2
    simp only [Value.ownBlock, Option.some.injEq] at h1 h2
    subst h1 h2
    have hc := rows_same hh' hx' (by omega)
    subst hc
    have old : OY w' B (.slice (some ⟨g2, 0, none⟩) (List.replicate (n + k) m).length c1) (List.replicate (n + k) m) := by
      have := A.old
      unfold OY
      rw [List.length_replicate] at this ⊢
      exact this
    have := row_take old n (by rw [List.length_replicate]; omega)
    unfold OY
    rw [List.length_replicate]
    rwa [Nat.mul_one, ← List.map_take, List.take_replicate, Nat.min_eq_left (by omega)] at this
  · refine row_keep h (fun q hq => A.grow.block q (row_lt h q hq).2 (fun z => hs ⟨q, hq, z.symm⟩))

/-- What takes keeps while it grows what was held. -/
structure TK (w wr : World) (B go : Nat) (lv : Value) (es : List (Value × UInt8)) (hv : Value) (hl : List UInt8) (m : UInt8) (v3 x : Value) (k : Nat) : Prop where
  blk : wr.heap[go]? = some (.cells #[v3, hv, .string (str hl)] 33 (0, 0))
  row : wr.ownsRow B 61 2 v3 (es.length + 1) (cellsE (es ++ [(hv, m)]))
  hv0 : OY wr B hv (List.replicate hl.length m)
  x0 : OY wr B x (List.replicate (hl.length + k) m)
  ents : ∀ e ∈ es, ∃ n : Nat, OY wr B e.1 (List.replicate n e.2)
  ch : Ch (OF go lv es hv) w wr
  v3b : ∀ q, v3.ownBlock = some q → q ≠ go ∧ hv.ownBlock ≠ some q ∧ (lv.ownBlock = some q ∨ w.heap.size ≤ q)
  xb : ∀ q, x.ownBlock = some q → (hv.ownBlock = some q ∨ w.heap.size ≤ q) ∧ q ≠ go ∧ v3.ownBlock ≠ some q
theorem TK.next {w wr w' : World} {B go : Nat} {lv : Value} {es : List (Value × UInt8)} {hv : Value} {hl : List UInt8} {m : UInt8} {v3 x x' : Value} {k : Nat} {o : Obj} (h : TK w wr B go lv es hv hl m v3 x k) (H : OW w B go lv es hv hl)
    (A : Apd (wr.alloc o) w' B 5 1 x x' (hl.length + k) 1 ((List.replicate (hl.length + k) m).map vb) [vb m]) : TK w w' B go lv es hv hl m v3 x' (k + 1) := by
  have hal := (Below.refl wr.heap.size wr).alloc (Nat.le_refl _) o
  have hsz : (wr.alloc o).heap.size = wr.heap.size + 1 := World.size_alloc _ _
  have same : ∀ q, q < wr.heap.size → x.ownBlock ≠ some q → w'.heap[q]? = wr.heap[q]? := fun q hq hn => (A.grow.block q (by omega) (fun z => hn z.symm)).trans (hal.block q hq)
  have hgo : go < wr.heap.size := blk_lt h.blk
  refine ⟨?_, ?_, ?_, ?_, ?_, ?_, h.v3b, ?_⟩
  · exact (same go hgo (fun z => (h.xb go z).2.1 rfl)).trans h.blk
  · exact row_keep h.row (fun q hq => same q (row_lt h.row q hq).2 (fun z => (h.xb q z).2.2 hq))
  · exact apd_keep A (row_below h.x0 hal (Nat.le_refl _)) (row_below h.hv0 hal (Nat.le_refl _))
  · have := A.row
    unfold OY
    rw [List.length_replicate, show hl.length + (k + 1) = hl.length + k + 1 by omega, List.replicate_succ', List.map_append]
    exact this
  · intro e he
    obtain ⟨n, hn⟩ := h.ents e he
    refine ⟨n, row_keep hn (fun q hq => same q (row_lt hn q hq).2 (fun z => ?_))⟩
    rcases (h.xb q z).1 with y | y
    · exact ((H.ents e he).2 q hq).2.2 y
    · obtain ⟨n0, hn0⟩ := (H.ents e he).1
      have := (row_lt hn0 q hq).2
      omega
  · refine ⟨A.grow.os.trans (hal.os.trans h.ch.os), A.grow.tape.trans (hal.tape.trans h.ch.tape), A.grow.output.trans (hal.output.trans h.ch.output), Nat.le_trans h.ch.size (Nat.le_trans hal.size A.grow.size), fun q hq hn => ?_⟩
    refine (same q (by have := h.ch.size; omega) (fun z => ?_)).trans (h.ch.block q hq hn)
    rcases (h.xb q z).1 with y | y
    · exact hn (Or.inr (Or.inr (Or.inl y)))
    · omega
  · intro q hq
    rcases A.blk with z | z
    · exact h.xb q (by rw [← z]; exact hq)
    · have := z q hq
      refine ⟨Or.inr (by have := h.ch.size; omega), by omega, fun y => ?_⟩
      have := (row_lt h.row q y).2
      omega

theorem TK.start {w wr w3 : World} {B go : Nat} {lv : Value} {es : List (Value × UInt8)} {hv : Value} {hl : List UInt8} {m : UInt8} {v3 : Value} {o : Obj} (H : OW w B go lv es hv hl) (hC : Ch (fun k => hv.ownBlock = some k) w wr) (O1 : OY wr B hv (List.replicate hl.length m))
    (A : Apd (wr.alloc o) w3 B 61 2 lv v3 es.length 1 (cellsE es) [hv, vb m]) :
    w3.heap[go]? = some (.cells #[lv, hv, .string (str hl)] 33 (0, 0)) ∧ TK w (w3.setCell ⟨go, 0, none⟩ v3) B go lv es hv hl m v3 hv 0 := by
  have hal := (Below.refl wr.heap.size wr).alloc (Nat.le_refl _) o
  have hsz : (wr.alloc o).heap.size = wr.heap.size + 1 := World.size_alloc _ _
  have hgo : go < w.heap.size := blk_lt H.blk
  have s1 := hC.size
  have same : ∀ q, q < wr.heap.size → lv.ownBlock ≠ some q → w3.heap[q]? = wr.heap[q]? := fun q hq hn => (A.grow.block q (by omega) (fun z => hn z.symm)).trans (hal.block q hq)
  have hblk : w3.heap[go]? = some (.cells #[lv, hv, .string (str hl)] 33 (0, 0)) := (same go (by omega) H.n1).trans ((hC.block go hgo H.n2).trans H.blk)
  have hup := Upd.setCell go 0 w3 v3
  have v3b : ∀ q, v3.ownBlock = some q → q ≠ go ∧ hv.ownBlock ≠ some q ∧ (lv.ownBlock = some q ∨ w.heap.size ≤ q) := fun q hq => by
    rcases A.blk with z | z
    · rw [z] at hq
      exact ⟨fun y => H.n1 (by rw [hq, y]), H.n3 q hq, Or.inl hq⟩
    · have := z q hq
      exact ⟨by omega, fun y => by have := (row_lt H.held q y).2; omega, Or.inr (by omega)⟩
  have hv3 : OY w3 B hv (List.replicate hl.length m) := row_keep O1 (fun q hq => same q (row_lt O1 q hq).2 (fun y => H.n3 q y hq))
  refine ⟨hblk, ⟨?_, ?_, ?_, ?_, ?_, ?_, v3b, ?_⟩⟩
  · exact blk_set hblk 0 v3
  · have := A.row
    rw [cellsE_append]
    exact row_keep this (fun q hq => hup.block q (v3b q hq).1)
  · exact row_keep hv3 (fun q hq => hup.block q (fun y => H.n2 (by rw [hq, y])))
  · exact row_keep hv3 (fun q hq => hup.block q (fun y => H.n2 (by rw [hq, y])))
  · intro e he
    obtain ⟨⟨n, hn⟩, h2⟩ := H.ents e he
    refine ⟨n, row_keep hn (fun q hq => ?_)⟩
    have hlt := (row_lt hn q hq).2
    obtain ⟨z1, z2, z3⟩ := h2 q hq
    exact (hup.block q z1).trans ((same q (by omega) z2).trans (hC.block q hlt z3))
  · refine (hC.mono (fun q hq => Or.inr (Or.inr (Or.inl hq)))).trans ((Ch.al _ wr o).trans ((Ch.apd A (fun q hq => Or.inr (Or.inl hq))).trans (Ch.set _ w3 go 0 v3 (Or.inl rfl))))
  · intro q hq
    exact ⟨Or.inl hq, fun y => H.n2 (by rw [hq, y]), fun y => (v3b q y).2.1 hq⟩

theorem TK.fin {w wr w5 : World} {B go : Nat} {lv : Value} {es : List (Value × UInt8)} {hv : Value} {hl lb : List UInt8} {m : UInt8} {v3 x v5 bv : Value} {k : Nat} {o : Obj} (h : TK w wr B go lv es hv hl m v3 x k) (H : OW w B go lv es hv hl)
    (A : Apd (wr.alloc o) w5 B 61 2 v3 v5 (es.length + 1) 1 (cellsE (es ++ [(hv, m)])) [x, vb m]) (hb : OY w B bv lb) (hbn : ∀ q, bv.ownBlock = some q → ¬ OF go lv es hv q) :
    w5.heap[go]? = some (.cells #[v3, hv, .string (str hl)] 33 (0, 0)) ∧ Ch (OF go lv es hv) w w5 ∧
    OW (((w5.setCell ⟨go, 0, none⟩ v5).setCell ⟨go, 1, none⟩ bv).setCell ⟨go, 2, none⟩ (.string (str lb))) B go v5 (es ++ [(hv, m), (x, m)]) bv lb ∧ ∀ q, OF go v5 (es ++ [(hv, m), (x, m)]) bv q → OF go lv es hv q ∨ bv.ownBlock = some q ∨ w.heap.size ≤ q := by
  have hal := (Below.refl wr.heap.size wr).alloc (Nat.le_refl _) o
  have hsz : (wr.alloc o).heap.size = wr.heap.size + 1 := World.size_alloc _ _
  have hgo : go < w.heap.size := blk_lt H.blk
  have s1 := h.ch.size
  have same : ∀ q, q < wr.heap.size → v3.ownBlock ≠ some q → w5.heap[q]? = wr.heap[q]? := fun q hq hn => (A.grow.block q (by omega) (fun z => hn z.symm)).trans (hal.block q hq)
  have hblk : w5.heap[go]? = some (.cells #[v3, hv, .string (str hl)] 33 (0, 0)) := (same go (by omega) (fun z => (h.v3b go z).1 rfl)).trans h.blk
  have hch : Ch (OF go lv es hv) w w5 := by
    refine ⟨A.grow.os.trans (hal.os.trans h.ch.os), A.grow.tape.trans (hal.tape.trans h.ch.tape), A.grow.output.trans (hal.output.trans h.ch.output), Nat.le_trans s1 (Nat.le_trans hal.size A.grow.size), fun q hq hn => ?_⟩
    refine (same q (by omega) (fun z => ?_)).trans (h.ch.block q hq hn)
    rcases (h.v3b q z).2.2 with y | y
    · exact hn (Or.inr (Or.inl y))
    · omega
  have u1 := Upd.setCell go 0 w5 v5
  have u2 := Upd.setCell go 1 (w5.setCell ⟨go, 0, none⟩ v5) bv
  have u3 := Upd.setCell go 2 ((w5.setCell ⟨go, 0, none⟩ v5).setCell ⟨go, 1, none⟩ bv) (.string (str lb))
  have hup := (u1.trans u2).trans u3
  have b1 := blk_set hblk 0 v5
  have b2 := blk_set b1 1 bv
  have b3 := blk_set b2 2 (.string (str lb))
  -- where the longer list lies
  have v5b : ∀ q, v5.ownBlock = some q → q ≠ go ∧ hv.ownBlock ≠ some q ∧ x.ownBlock ≠ some q ∧ (lv.ownBlock = some q ∨ w.heap.size ≤ q) := fun q hq => by
    rcases A.blk with z | z
    · rw [z] at hq
      obtain ⟨z1, z2, z3⟩ := h.v3b q hq
      exact ⟨z1, z2, fun y => (h.xb q y).2.2 hq, z3⟩
    · have := z q hq
      exact ⟨by omega, fun y => by have := (row_lt h.hv0 q y).2; omega, fun y => by have := (row_lt h.x0 q y).2; omega, Or.inr (by omega)⟩
  have hbw : OY w5 B bv lb := row_keep hb (fun q hq => hch.block q (row_lt hb q hq).2 (hbn q hq))
  have bvn : ∀ q, bv.ownBlock = some q → q ≠ go ∧ hv.ownBlock ≠ some q ∧ lv.ownBlock ≠ some q ∧ q < w.heap.size := fun q hq => by
    have hn := hbn q hq
    exact ⟨fun y => hn (Or.inl y), fun y => hn (Or.inr (Or.inr (Or.inl y))), fun y => hn (Or.inr (Or.inl y)), (row_lt hb q hq).2⟩
  have xh : OY w5 B hv (List.replicate hl.length m) := row_keep h.hv0 (fun q hq => same q (row_lt h.hv0 q hq).2 (fun y => (h.v3b q y).2.1 hq))
  have xx : OY w5 B x (List.replicate (hl.length + k) m) := row_keep h.x0 (fun q hq => same q (row_lt h.x0 q hq).2 (fun y => (h.xb q hq).2.2 y))
  have hvn : ∀ q, hv.ownBlock = some q → q ≠ go ∧ v5.ownBlock ≠ some q ∧ bv.ownBlock ≠ some q := fun q hq => ⟨fun y => H.n2 (by rw [hq, y]), fun y => (v5b q y).2.1 hq, fun y => (bvn q y).2.1 hq⟩
  have xn : ∀ q, x.ownBlock = some q → q ≠ go ∧ v5.ownBlock ≠ some q ∧ bv.ownBlock ≠ some q := fun q hq => ⟨(h.xb q hq).2.1, fun y => (v5b q y).2.2.1 hq, fun y => by
    rcases (h.xb q hq).1 with z | z
    · exact (bvn q y).2.1 z
    · have := (bvn q y).2.2.2; omega⟩
  refine ⟨hblk, hch, ⟨?_, ?_, ?_, ?_, ?_, ?_, ?_, H.ge⟩, ?_⟩
  · exact b3
  · have := A.row
    rw [show es ++ [(hv, m), (x, m)] = (es ++ [(hv, m)]) ++ [(x, m)] by simp, cellsE_append, List.length_append, List.length_append]
    exact row_keep this (fun q hq => hup.block q (v5b q hq).1)
  · exact row_keep hbw (fun q hq => hup.block q (bvn q hq).1)
  · exact fun y => (v5b go y).1 rfl
  · exact fun y => (bvn go y).1 rfl
  · intro q hq y
    rcases (v5b q hq).2.2.2 with z | z
    · exact (bvn q y).2.2.1 z
    · have := (bvn q y).2.2.2; omega
  · intro e he
    rcases List.mem_append.mp he with he | he
    · obtain ⟨n, hn⟩ := h.ents e he
      obtain ⟨⟨n0, hn0⟩, h2⟩ := H.ents e he
      have key : ∀ q, e.1.ownBlock = some q → q < w.heap.size ∧ v3.ownBlock ≠ some q := fun q hq => ⟨(row_lt hn0 q hq).2, fun y => by
        rcases (h.v3b q y).2.2 with z | z
        · exact (h2 q hq).2.1 z
        · have := (row_lt hn0 q hq).2; omega⟩
      refine ⟨⟨n, row_keep hn (fun q hq => (hup.block q (h2 q hq).1).trans (same q (row_lt hn q hq).2 (key q hq).2))⟩, fun q hq => ⟨(h2 q hq).1, fun y => ?_, fun y => hbn q y (Or.inr (Or.inr (Or.inr ⟨e, he, hq⟩)))⟩⟩
      rcases (v5b q y).2.2.2 with z | z
      · exact (h2 q hq).2.1 z
      · have := (key q hq).1; omega
    · rcases List.mem_cons.mp he with rfl | he
      · exact ⟨⟨_, row_keep xh (fun q hq => hup.block q (hvn q hq).1)⟩, hvn⟩
      · obtain rfl := List.mem_singleton.mp he
        exact ⟨⟨_, row_keep xx (fun q hq => hup.block q (xn q hq).1)⟩, xn⟩
  · intro q hq
    rcases hq with rfl | y | y | ⟨e, he, y⟩
    · exact Or.inl (Or.inl rfl)
    · rcases (v5b q y).2.2.2 with z | z
      · exact Or.inl (Or.inr (Or.inl z))
      · exact Or.inr (Or.inr z)
    · exact Or.inr (Or.inl y)
    · rcases List.mem_append.mp he with he | he
      · exact Or.inl (Or.inr (Or.inr (Or.inr ⟨e, he, y⟩)))
      · rcases List.mem_cons.mp he with rfl | he
        · exact Or.inl (Or.inr (Or.inr (Or.inl y)))
        · obtain rfl := List.mem_singleton.mp he
          rcases (h.xb q y).1 with z | z
          · exact Or.inl (Or.inr (Or.inr (Or.inl z)))
          · exact Or.inr (Or.inr z)

theorem by_ch {S : Bl} {w w' : World} {v : Value} {l : List UInt8} (h : BY w v l) (hc : Ch S w w') (hn : l ≠ [] → ∀ k, S k → v.ownBlock ≠ some k) : BY w' v l := by
  obtain ⟨hl, oa, c, rfl, h1, h2, h3, h4⟩ := h
  refine ⟨hl, oa, c, rfl, h1, h2, h3, fun a ha j u hu => ?_⟩
  have := h4 a ha j u hu
  have hne : l ≠ [] := fun q => by subst q; simp at hu
  subst ha
  have e : (a.add j).block = a.block := by unfold Addr.add; split <;> rfl
  rw [World.cell?_of_block (w := w) (hc.block _ (cell_lt this) (fun z => hn hne _ z (by rw [e]; rfl)))]
  exact this

set_option maxRecDepth 100000 in
set_option maxHeartbeats 3200000 in
theorem takes_any (B go : Nat) (lv hv bv wv : Value) (es : List (Value × UInt8)) (hl lb : List UInt8) (w : World) (h : OW w B go lv es hv hl) (hb : OY w B bv lb) (hw : BY w wv lb) (hbn : ∀ k, bv.ownBlock = some k → ¬ OF go lv es hv k)
    (hwn : lb ≠ [] → ∀ k, OF go lv es hv k → wv.ownBlock ≠ some k) (hB : B ≤ w.heap.size) (hes : es.length ≤ 1000000000) (hll : hl.length ≤ 70000000000000) :
    Calls Tryd.prog 10 #[.pointer (some ⟨go, 0, none⟩), bv, wv] w fun e w' => e = .returned (.bool true) ∧ ∃ lv' es', es'.length = es.length + 2 ∧ OW w' B go lv' es' bv lb ∧
      (w'.os = w.os ∧ w'.tape = w.tape ∧ w'.output = w.output ∧ w.heap.size ≤ w'.heap.size) ∧ (∀ k, k < w.heap.size → ¬ OF go lv es hv k → w'.heap[k]? = w.heap[k]?) ∧ ∀ k, OF go lv' es' bv k → OF go lv es hv k ∨ bv.ownBlock = some k ∨ w.heap.size ≤ k := by
  have H := hide h
  have HB := hide hb
  have HW := hide hw
  have HBN := hide hbn
  have HWN := hide hwn
  have HSZ := hide (And.intro hB (And.intro hes hll))
  obtain ⟨ol, cl, rfl⟩ : ∃ ol cl, lv = .slice ol es.length cl := by
    obtain ⟨_, oa, c, e, _⟩ := own_sv h.row
    exact ⟨oa, c, e⟩
  obtain ⟨oh, ch, rfl, _, _⟩ := (OY.by h.held).form
  obtain ⟨ob, cb, rfl, _, _⟩ := (OY.by hb).form
  obtain ⟨ow, cw, rfl, _, _⟩ := hw.form
  have c0 : w.cell? ⟨go, 0, none⟩ = some (.slice ol es.length cl) := by rw [blk_cell h.blk]; rfl
  have c1 : w.cell? ⟨go, 1, none⟩ = some (.slice oh hl.length ch) := by rw [blk_cell h.blk]; rfl
  have c2 : w.cell? ⟨go, 2, none⟩ = some (.string (str hl)) := by rw [blk_cell h.blk]; rfl
  have v1 : ∀ n, (convert 27 9 (.slice oh hl.length ch)).run Tryd.prog (w.drewN n) = .ok (.string (str hl)) (w.drewN n) := fun n => by_str (SV.drewN (OY.by h.held) n)
  have v2 : ∀ n, (convert 27 9 (.slice ob lb.length cb)).run Tryd.prog (w.drewN n) = .ok (.string (str lb)) (w.drewN n) := fun n => by_str (SV.drewN (OY.by hb) n)
  have v3 : ∀ n, (convert 27 9 (.slice ow lb.length cw)).run Tryd.prog (w.drewN n) = .ok (.string (str lb)) (w.drewN n) := fun n => by_str (SV.drewN hw n)
  have hmk := mkOf_nat es.length
  have hmod : (0 : Int) ≤ (es.length : Int) := by omega
  clear h hb hw hbn hwn
  go_enter Tryd.func10, Tryd.ntmps10
  go_upto_region 1 with fail
  go_quiet (fail)
  go_wp2
  rw [← hmk]
  generalize mkOf es.length = m at *
  clear hmk c0 c1 c2 v1 v2 v3 hmod
  have HM0 := hide (And.intro (show hl.take 0 = List.replicate 0 m from rfl) (show hl.length = hl.length from rfl))
  have O0 := hide (show OY (w.drewN nq) B (.slice oh hl.length ch) hl from (unhide H).held)
  go_loopw [11] (fun iv wr => ∃ (i : Nat) (M : List UInt8), i ≤ hl.length ∧ iv = .int .i64 (i : Int) ∧ Hid (M.take i = List.replicate i m ∧ M.length = hl.length) ∧ Hid (OY wr B (.slice oh hl.length ch) M) ∧ Hid (Ch (fun k => (Value.slice oh hl.length ch).ownBlock = some k) w wr)) (fun iv _ => hl.length - (intOf iv).toNat)
  case atStart => exact ⟨0, hl, Nat.zero_le _, rfl, hide ⟨rfl, rfl⟩, O0, Ch.drewN _ _ _⟩
  case round =>
    clear HM0 O0
    obtain ⟨i, M, hi, rfl, hM, hO, hC⟩ := hrel
    by_cases hlt : i < hl.length
    · obtain ⟨gh, hgh⟩ : ∃ gh, oh = some ⟨gh, 0, none⟩ := by
        obtain ⟨_, ⟨q, h0⟩ | ⟨g', cap, cur, q, _⟩⟩ := unhide hO
        · rw [(unhide hM).2] at h0; omega
        · simp only [Value.slice.injEq] at q
          exact ⟨g', q.1⟩
      subst hgh
      have e1 : (i : Int) < (hl.length : Int) := by omega
      have e0 : (0 : Int) ≤ (i : Int) := by omega
      obtain ⟨x, hx⟩ : ∃ x, M[i]? = some x := ⟨_, List.getElem?_eq_getElem (by rw [(unhide hM).2]; exact hlt)⟩
      have cx := oy_cell (unhide hO) i x hx
      have fx := row_frz (unhide hO) i
      have M2 := hide (And.intro (rep_next M hl.length i m (unhide hM).1 (unhide hM).2 hlt) (show (M.set i m).length = hl.length by rw [List.length_set]; exact (unhide hM).2))
      have O2 := hide (oy_set (unhide hO) i m)
      have C2 := hide ((unhide hC).trans (Ch.set (fun k => (Value.slice (some ⟨gh, 0, none⟩) hl.length ch).ownBlock = some k) wr gh i (.int .u8 (m.toNat : Int)) rfl))
      clear hM hO hC hx
      have e2 : (i : Int) < 9223372036854775807 := by omega
      go_wp2
      exact ⟨⟨i + 1, M.set i m, by omega, by go_num, M2, O2, C2⟩, by simp [intOf]; omega⟩
    · obtain ⟨n, hn⟩ : ∃ n, n = hl.length := ⟨_, rfl⟩
      obtain rfl := (show n = i by omega)
      have O1 := hide (show OY wr B (.slice oh hl.length ch) (List.replicate hl.length m) by
        have := (unhide hM).1
        rw [hn, List.take_of_length_le (by rw [(unhide hM).2]; exact Nat.le_refl _)] at this
        rw [← this]; exact unhide hO)
      have hgo0 : go < w.heap.size := blk_lt (unhide H).blk
      have B1 := hide (show wr.heap[go]? = some (.cells #[.slice ol es.length cl, .slice oh hl.length ch, .string (str hl)] 33 (0, 0)) from ((unhide hC).block go hgo0 (unhide H).n2).trans (unhide H).blk)
      have R1 := hide (show wr.ownsRow B 61 2 (.slice ol es.length cl) es.length (cellsE es) from row_keep (unhide H).row (fun q hq => (unhide hC).block q (row_lt (unhide H).row q hq).2 ((unhide H).n3 q hq)))
      have c0 : wr.cell? ⟨go, 0, none⟩ = some (.slice ol es.length cl) := by rw [blk_cell (unhide B1)]; rfl
      have hal := hide ((Below.refl wr.heap.size wr).alloc (Nat.le_refl _) (.cells #[.slice oh hl.length ch, .int .u8 (m.toNat : Int)] 61))
      have R2 := hide (row_below (unhide R1) (unhide hal) (Nat.le_refl _))
      have S2 := hide (show SV (wr.alloc (.cells #[.slice oh hl.length ch, .int .u8 (m.toNat : Int)] 61)) (.slice (some ⟨wr.heap.size, 0, none⟩) 1 1) 1 2 [.slice oh hl.length ch, vb m] from sv_cells (heap_alloc_new wr _) 1 2 rfl (by unfold maxLen; omega))
      have hBw := hide (show B ≤ (wr.alloc (.cells #[.slice oh hl.length ch, .int .u8 (m.toNat : Int)] 61)).heap.size from Nat.le_trans (unhide HSZ).1 (Nat.le_trans (unhide hC).size (unhide hal).size))
      have h1c : Hid (∀ u ∈ [Value.slice oh hl.length ch, vb m], u.oneCell' = true) := fun u hu => by
        rcases List.mem_cons.mp hu with rfl | hu
        · rfl
        · obtain rfl := List.mem_singleton.mp hu; rfl
      have hb2 := hide (show es.length + 1 ≤ maxLen by have := (unhide HSZ).2.1; unfold maxLen; omega)
      have hb3 := hide (show (es.length + 1) * 32 ≤ 140737488355328 by have := (unhide HSZ).2.1; omega)
      have hcl0 : go < wr.heap.size := Nat.lt_of_lt_of_le hgo0 (unhide hC).size
      clear hM hO hi hlt hes hll hB
      go_wp2_with (at_builtin; refine wpList_append_sv2 (P := Tryd.prog) rfl _ _ 31 rfl B 61 _ 2 32 undOwn infoOwn rfl (by decide) _ _ es.length 1 (cellsE es) [.slice oh hl.length ch, vb m] rfl rfl (unhide R2) (unhide S2) (unhide h1c) (unhide hb2) (unhide hb3) (unhide hBw) ?_)
      intro v3 w3 A3
      obtain ⟨hbk, tk⟩ := TK.start (unhide H) (unhide hC) (unhide O1) A3
      obtain ⟨o3, c3, rfl⟩ : ∃ o3 c3, v3 = .slice o3 (es.length + 1) c3 := by
        obtain ⟨_, oa, c, e, _⟩ := own_sv A3.row
        exact ⟨oa, c, e⟩
      have d0 : w3.cell? ⟨go, 0, none⟩ = some (.slice ol es.length cl) := by rw [blk_cell hbk]; rfl
      have f0 := blk_free hbk 0
      have TK0 := hide tk
      clear A3 tk R2 S2 hal hBw h1c hb2 hb3 B1 R1 O1 hC c0 hbk hcl0
      go_wp2
      go_loopw [10, 12] (fun lw iv wr => ∃ (k : Nat) (ox : Option Addr) (nx cx : Nat), k ≤ 40 ∧ iv = .int .i64 (k : Int) ∧ lw = .slice ox nx cx ∧ Hid (TK w wr B go (.slice ol es.length cl) es (.slice oh hl.length ch) hl m (.slice o3 (es.length + 1) c3) (.slice ox nx cx) k)) (fun _ iv _ => 40 - (intOf iv).toNat)
      case atStart => exact ⟨0, _, _, _, by omega, rfl, rfl, TK0⟩
      case round =>
        clear TK0 d0 f0
        obtain ⟨k, ox, nx, cx, hk, rfl, rfl, tk⟩ := hrel
        by_cases hlt : k < 40
        · have e1 : (k : Int) < 40 := by omega
          have hsz2 := unhide HSZ
          have O2 := hide (row_below (unhide tk).x0 ((Below.refl _ wr).alloc (Nat.le_refl _) (.cells #[.int .u8 (m.toNat : Int)] 5)) (Nat.le_refl _))
          have n2 := hide (show SV (wr.alloc (.cells #[.int .u8 (m.toNat : Int)] 5)) (.slice (some ⟨wr.heap.size, 0, none⟩) 1 1) 1 1 [vb m] from sv_cells (heap_alloc_new wr _) 1 1 rfl (by unfold maxLen; omega))
          have hB2 := hide (show B ≤ (wr.alloc (.cells #[.int .u8 (m.toNat : Int)] 5)).heap.size from Nat.le_trans hsz2.1 (Nat.le_trans (unhide tk).ch.size ((Below.refl _ wr).alloc (Nat.le_refl _) _).size))
          have hlk : (List.replicate (hl.length + k) m).length = hl.length + k := List.length_replicate
          have g2 := hide (show hl.length + k + 1 ≤ maxLen by unfold maxLen; omega)
          have g3 := hide (show (hl.length + k + 1) * 1 ≤ 140737488355328 by omega)
          rw [hlk] at O2
          clear hlk hsz2
          go_wp2_with (at_builtin; refine wpList_append_sv2 (P := Tryd.prog) rfl _ _ 27 rfl B 5 _ 1 1 undU infoU rfl (by decide) _ _ (hl.length + k) 1 ((List.replicate (hl.length + k) m).map vb) [vb m] rfl rfl (unhide O2) (unhide n2) (one_by [m]) (unhide g2) (unhide g3) (unhide hB2) ?_)
          intro v5 w5 A5
          obtain ⟨o5, n5, c5, rfl⟩ : ∃ o5 n5 c5, v5 = .slice o5 n5 c5 := by
            obtain ⟨_, oa, c, e, _⟩ := own_sv A5.row
            exact ⟨oa, _, c, e⟩
          have T5 := hide ((unhide tk).next (unhide H) (by rw [List.map_replicate]; exact A5))
          clear A5 O2 n2 hB2 g2 g3 tk
          go_wp2
          exact ⟨⟨k + 1, _, _, _, by omega, by go_num, rfl, T5⟩, by simp [intOf]; omega⟩
        · obtain rfl := (show 40 = k by omega)
          have hsz2 := unhide HSZ
          have c0 : wr.cell? ⟨go, 0, none⟩ = some (.slice o3 (es.length + 1) c3) := by rw [blk_cell (unhide tk).blk]; rfl
          have hal := hide ((Below.refl wr.heap.size wr).alloc (Nat.le_refl _) (.cells #[.slice ox nx cx, .int .u8 (m.toNat : Int)] 61))
          have R2 := hide (row_below (unhide tk).row (unhide hal) (Nat.le_refl _))
          have S2 := hide (show SV (wr.alloc (.cells #[.slice ox nx cx, .int .u8 (m.toNat : Int)] 61)) (.slice (some ⟨wr.heap.size, 0, none⟩) 1 1) 1 2 [.slice ox nx cx, vb m] from sv_cells (heap_alloc_new wr _) 1 2 rfl (by unfold maxLen; omega))
          have hBw := hide (show B ≤ (wr.alloc (.cells #[.slice ox nx cx, .int .u8 (m.toNat : Int)] 61)).heap.size from Nat.le_trans hsz2.1 (Nat.le_trans (unhide tk).ch.size (unhide hal).size))
          have h1c : Hid (∀ u ∈ [Value.slice ox nx cx, vb m], u.oneCell' = true) := fun u hu => by
            rcases List.mem_cons.mp hu with rfl | hu
            · rfl
            · obtain rfl := List.mem_singleton.mp hu; rfl
          have hb2 := hide (show es.length + 1 + 1 ≤ maxLen by have := hsz2.2.1; unfold maxLen; omega)
          have hb3 := hide (show (es.length + 1 + 1) * 32 ≤ 140737488355328 by have := hsz2.2.1; omega)
          have hgl : go < wr.heap.size := blk_lt (unhide tk).blk
          obtain ⟨xs2, hxs2⟩ : ∃ xs, xs = cellsE (es ++ [(.slice oh hl.length ch, m)]) := ⟨_, rfl⟩
          have HX2 := hide hxs2
          rw [← hxs2] at R2
          clear hxs2 hsz2 hk hlt
          go_wp2_with (at_builtin; refine wpList_append_sv2 (P := Tryd.prog) rfl _ _ 31 rfl B 61 _ 2 32 undOwn infoOwn rfl (by decide) _ _ (es.length + 1) 1 xs2 [.slice ox nx cx, vb m] rfl rfl (unhide R2) (unhide S2) (unhide h1c) (unhide hb2) (unhide hb3) (unhide hBw) ?_)
          intro v5 w5 A5
          rw [unhide HX2] at A5
          obtain ⟨o5, c5, rfl⟩ : ∃ o5 c5, v5 = .slice o5 (es.length + 1 + 1) c5 := by
            obtain ⟨_, oa, c, e, _⟩ := own_sv A5.row
            exact ⟨oa, c, e⟩
          obtain ⟨hbk, hch, how, hsub⟩ := TK.fin (unhide tk) (unhide H) A5 (unhide HB) (unhide HBN)
          have d0 : w5.cell? ⟨go, 0, none⟩ = some (.slice o3 (es.length + 1) c3) := by rw [blk_cell hbk]; rfl
          have f0 := blk_free hbk 0
          have b1 := blk_set hbk 0 (.slice o5 (es.length + 1 + 1) c5)
          have d1 : (w5.setCell ⟨go, 0, none⟩ (.slice o5 (es.length + 1 + 1) c5)).cell? ⟨go, 1, none⟩ = some (.slice oh hl.length ch) := by rw [blk_cell b1]; rfl
          have f1 := blk_free b1 1
          have b2 := blk_set b1 1 (.slice ob lb.length cb)
          have d2 : ((w5.setCell ⟨go, 0, none⟩ (.slice o5 (es.length + 1 + 1) c5)).setCell ⟨go, 1, none⟩ (.slice ob lb.length cb)).cell? ⟨go, 2, none⟩ = some (.string (str hl)) := by rw [blk_cell b2]; rfl
          have f2 := blk_free b2 2
          have hcv : (convert 27 9 (.slice ow lb.length cw)).run Tryd.prog ((w5.setCell ⟨go, 0, none⟩ (.slice o5 (es.length + 1 + 1) c5)).setCell ⟨go, 1, none⟩ (.slice ob lb.length cb)) = .ok (.string (str lb)) ((w5.setCell ⟨go, 0, none⟩ (.slice o5 (es.length + 1 + 1) c5)).setCell ⟨go, 1, none⟩ (.slice ob lb.length cb)) :=
            by_str (by_upd (by_upd (by_ch (unhide HW) hch (unhide HWN)) (Upd.setCell go 0 w5 _) (fun q => unhide HWN q go (Or.inl rfl))) (Upd.setCell go 1 _ _) (fun q => unhide HWN q go (Or.inl rfl)))
          have HCH := hide (hch.trans ((Ch.set _ w5 go 0 (.slice o5 (es.length + 1 + 1) c5) (Or.inl rfl)).trans ((Ch.set _ _ go 1 (.slice ob lb.length cb) (Or.inl rfl)).trans (Ch.set _ _ go 2 (.string (str lb)) (Or.inl rfl)))))
          have HOW := hide how
          have HSUB := hide hsub
          have hg5 : go < w5.heap.size := blk_lt hbk
          clear A5 R2 S2 hal hBw h1c hb2 hb3 hbk hch how hsub b1 b2 tk HX2 hgl c0
          go_wp2
          clear d0 d1 d2 f0 f1 f2 hcv hg5
          generalize ((w5.setCell ⟨go, 0, none⟩ (.slice o5 (es.length + 1 + 1) c5)).setCell ⟨go, 1, none⟩ (.slice ob lb.length cb)).setCell ⟨go, 2, none⟩ (.string (str lb)) = W6 at HCH HOW ⊢
          obtain ⟨E, hE⟩ : ∃ E, E = es ++ [(Value.slice oh hl.length ch, m), (Value.slice ox nx cx, m)] := ⟨_, rfl⟩
          rw [← hE] at HOW HSUB
          have hEl : E.length = es.length + 1 + 1 := by rw [hE]; simp
          have HEL := hide hEl
          have C0 := hide (show W6.cell? ⟨go, 0, none⟩ = some (.slice o5 (es.length + 1 + 1) c5) by rw [blk_cell (unhide HOW).blk]; rfl)
          obtain ⟨a5, c5', ev5, _, _, hcel⟩ := SV.some (own_sv (unhide HOW).row) (by omega)
          rw [hEl] at ev5
          cases ev5
          have HCEL := hide hcel
          have HNE := hide (show es.length + 1 + 1 ≤ 2000000000 by have := (unhide HSZ).2.1; omega)
          generalize hNE : es.length + 1 + 1 = NE at *
          have HNQ := hide hNE
          clear hE hEl hcel hNE
          go_loopw [13, 14] (fun iv _ wr => ∃ i : Nat, i ≤ NE ∧ iv = .int .i64 (i : Int) ∧ ∃ q, wr = W6.drewN q) (fun iv _ _ => NE - (intOf iv).toNat)
          case atStart => exact ⟨0, Nat.zero_le _, rfl, 0, rfl⟩
          case round =>
            obtain ⟨i, hi, rfl, q, rfl⟩ := hrel
            have c0 : (W6.drewN q).cell? ⟨go, 0, none⟩ = some (.slice (some a5) NE c5) := unhide C0
            have hgo6 : go < (W6.drewN q).heap.size := blk_lt (unhide HOW).blk
            by_cases hlt : i < NE
            · have e1 : (i : Int) < (NE : Int) := by omega
              have e0 : (0 : Int) ≤ (i : Int) := by omega
              obtain ⟨e, he⟩ : ∃ e, E[i]? = some e := ⟨_, List.getElem?_eq_getElem (by have := unhide HEL; omega)⟩
              obtain ⟨k1, k2⟩ := cellsE_at E i e he
              have p1 := unhide HCEL _ _ k1
              have p2 := unhide HCEL _ _ k2
              obtain ⟨⟨ne, hne⟩, _⟩ := (unhide HOW).ents e (List.mem_of_getElem? he)
              obtain ⟨ev, em⟩ := e
              simp only at p1 p2 hne
              obtain ⟨oe, ce, rfl, _, _⟩ := (OY.by hne).form
              rw [List.length_replicate] at p1 hne
              rw [← add_add] at p2
              have p2' := at1 1 (by omega) p2
              have P1 := hide p1
              have P2 := hide p2'
              have HNE2 := hide hne
              have hne9 := hide (show (ne : Int) ≤ 9223372036854775807 by
                obtain ⟨_, oa', c', q', z1, z2, _⟩ := OY.by hne
                rw [List.length_replicate] at z1
                unfold maxLen at z2
                have : ne ≤ maxLen := Nat.le_trans z1 (by unfold maxLen; omega)
                unfold maxLen at this
                omega)
              clear k1 k2 he p1 p2 p2' hne
              go_wp2
              go_loopw [14] (fun kv wr => ∃ k : Nat, k ≤ ne ∧ kv = .int .i64 (k : Int) ∧ ∃ q, wr = W6.drewN q) (fun kv _ => ne - (intOf kv).toNat)
              case atStart => exact ⟨0, Nat.zero_le _, rfl, q, rfl⟩
              case round =>
                clear c0
                obtain ⟨k, hk, rfl, q2, rfl⟩ := hrel
                have c0 : (W6.drewN q2).cell? ⟨go, 0, none⟩ = some (.slice (some a5) NE c5) := unhide C0
                have p1 : (W6.drewN q2).cell? (a5.add (i * 2)) = some (.slice oe ne ce) := unhide P1
                have p2 : (W6.drewN q2).cell? ⟨(a5.add (i * 2)).block, (a5.add (i * 2)).off + 1, none⟩ = some (.int .u8 (em.toNat : Int)) := unhide P2
                by_cases hlt2 : k < ne
                · have g1 : (k : Int) < (ne : Int) := by omega
                  have g0 : (0 : Int) ≤ (k : Int) := by omega
                  obtain ⟨ae, ce', ee, _, _, hce⟩ := (OY.by (unhide HNE2)).at (by rw [List.length_replicate]; omega)
                  rw [List.length_replicate] at ee
                  cases ee
                  have p3 : (W6.drewN q2).cell? (ae.add k) = some (.int .u8 (em.toNat : Int)) := hce k em (by rw [List.getElem?_replicate, if_pos hlt2])
                  clear hce
                  go_upto_region 23 with fail
                  have c0' : W6.cell? ⟨go, 0, none⟩ = some (.slice (some a5) NE c5) := unhide C0
                  have p1' : W6.cell? (a5.add (i * 2)) = some (.slice (some ae) ne ce) := p1
                  have p2' : W6.cell? ⟨(a5.add (i * 2)).block, (a5.add (i * 2)).off + 1, none⟩ = some (.int .u8 (em.toNat : Int)) := p2
                  have p3' : W6.cell? (ae.add k) = some (.int .u8 (em.toNat : Int)) := p3
                  have hg6 : go < W6.heap.size := hgo6
                  go_quiet (fail)
                  have e2 := unhide hne9
                  have e3 : (k : Int) < 9223372036854775807 := by omega
                  go_wp2
                  exact ⟨⟨k + 1, by omega, by go_num, _, by first | rfl | (rw [World.drewN_drewN])⟩, by simp [intOf]; omega⟩
                · obtain rfl := (show ne = k by omega)
                  have e3 : (i : Int) < 9223372036854775807 := by have := unhide HNE; omega
                  go_wp2
                  exact ⟨⟨i + 1, by omega, by go_num, q2, rfl⟩, by simp [intOf]; omega⟩
            · obtain rfl := (show NE = i by omega)
              have HQ := hide ((unhide HCH).trans (Ch.drewN _ W6 q))
              have HO6 := hide (show OW (W6.drewN q) B go (.slice (some a5) NE c5) E (.slice ob lb.length cb) lb from (unhide HOW).keep (fun _ _ => rfl))
              go_wp2
              go_ret
              exact ⟨rfl, _, E, (unhide HEL).trans (unhide HNQ).symm, unhide HO6, ⟨(unhide HQ).os, (unhide HQ).tape, (unhide HQ).output, (unhide HQ).size⟩, (unhide HQ).block, unhide HSUB⟩
end Go.Proofs.YtbcclolhfogpnaaDoor.dk
