/- DiskPlays' owner: what came out, in memory. -/
import Derived.Test.YtbcclolhfogpnaaDoorYs
namespace Go.Proofs.YtbcclolhfogpnaaDoor.dk
open Go.RowKit mm

/-- What came out before, each with the mark that it is written full with. -/
def Ents := List (Value × UInt8)
def cellsE (es : List (Value × UInt8)) : List Value := es.flatMap (fun e => [e.1, vb e.2])
theorem cellsE_len (es : List (Value × UInt8)) : (cellsE es).length = es.length * 2 := by
  unfold cellsE
  induction es with
  | nil => rfl
  | cons x r ih => rw [List.flatMap_cons, List.length_append, ih]; simp; omega
theorem cellsE_append (es fs : List (Value × UInt8)) : cellsE (es ++ fs) = cellsE es ++ cellsE fs := by unfold cellsE; simp
theorem cellsE_at : ∀ (es : List (Value × UInt8)) (i : Nat) (e : Value × UInt8), es[i]? = some e → (cellsE es)[i * 2]? = some e.1 ∧ (cellsE es)[i * 2 + 1]? = some (vb e.2)
  | [], i, e, h => by simp at h
  | x :: r, 0, e, h => by
    simp only [List.getElem?_cons_zero, Option.some.injEq] at h
    subst h
    exact ⟨rfl, rfl⟩
  | x :: r, i + 1, e, h => by
    simp only [List.getElem?_cons_succ] at h
    have := cellsE_at r i e h
    have e1 : cellsE (x :: r) = x.1 :: vb x.2 :: cellsE r := rfl
    rw [e1, show (i + 1) * 2 = i * 2 + 1 + 1 by omega]
    exact this
/-- The owner: his block, his list, what he wrote full, what he holds. -/
structure OW (w : World) (B go : Nat) (lv : Value) (es : List (Value × UInt8)) (hv : Value) (hl : List UInt8) : Prop where
  blk : w.heap[go]? = some (.cells #[lv, hv, .string (str hl)] 33 (0, 0))
  row : w.ownsRow B 61 2 lv es.length (cellsE es)
  held : OY w B hv hl
  n1 : lv.ownBlock ≠ some go
  n2 : hv.ownBlock ≠ some go
  n3 : ∀ k, lv.ownBlock = some k → hv.ownBlock ≠ some k
  ents : ∀ e ∈ es, (∃ n : Nat, OY w B e.1 (List.replicate n e.2)) ∧ ∀ k, e.1.ownBlock = some k → k ≠ go ∧ lv.ownBlock ≠ some k ∧ hv.ownBlock ≠ some k
  ge : B ≤ go
/-- The blocks that he holds. -/
def OF (go : Nat) (lv : Value) (es : List (Value × UInt8)) (hv : Value) : Bl := fun k => k = go ∨ lv.ownBlock = some k ∨ hv.ownBlock = some k ∨ ∃ e ∈ es, e.1.ownBlock = some k
theorem OW.lt {w : World} {B go : Nat} {lv hv : Value} {es : List (Value × UInt8)} {hl : List UInt8} (h : OW w B go lv es hv hl) : ∀ k, OF go lv es hv k → B ≤ k ∧ k < w.heap.size := fun k hk => by
  rcases hk with rfl | q | q | ⟨e, he, q⟩
  · exact ⟨h.ge, blk_lt h.blk⟩
  · exact row_lt h.row k q
  · exact row_lt h.held k q
  · obtain ⟨n, hn⟩ := (h.ents e he).1
    exact row_lt hn k q
theorem OW.keep {w w' : World} {B go : Nat} {lv hv : Value} {es : List (Value × UInt8)} {hl : List UInt8} (h : OW w B go lv es hv hl) (hk : ∀ k, OF go lv es hv k → w'.heap[k]? = w.heap[k]?) : OW w' B go lv es hv hl where
  blk := (hk go (Or.inl rfl)).trans h.blk
  row := row_keep h.row (fun k q => hk k (Or.inr (Or.inl q)))
  held := row_keep h.held (fun k q => hk k (Or.inr (Or.inr (Or.inl q))))
  n1 := h.n1
  n2 := h.n2
  n3 := h.n3
  ents := fun e he => by
    obtain ⟨⟨n, hn⟩, h2⟩ := h.ents e he
    exact ⟨⟨n, row_keep hn (fun k q => hk k (Or.inr (Or.inr (Or.inr ⟨e, he, q⟩))))⟩, h2⟩
  ge := h.ge
theorem infoOwn : (Tryd.prog.info? 61).map (fun i => (i.zero, i.size, i.bytes)) = some (some (.agg #[.slice none 0 0, .int .u8 0]), 2, 32) := by kernel_rfl
theorem undOwn : Tryd.prog.underlying 31 = some (.slice 61) := by kernel_rfl
/-- The mark of the n-th pair. -/
def mkOf (n : Nat) : UInt8 := UInt8.ofNat (n % 200 + 20)
theorem mkOf_nat (n : Nat) : ((mkOf n).toNat : Int) = (n : Int) % 200 + 20 := by
  unfold mkOf
  rw [UInt8.toNat_ofNat']
  omega
end Go.Proofs.YtbcclolhfogpnaaDoor.dk
