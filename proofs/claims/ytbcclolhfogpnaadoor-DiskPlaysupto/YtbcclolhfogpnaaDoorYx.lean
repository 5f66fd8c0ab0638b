/- DiskPlays, over the calls' contracts. -/
import Derived.Test.YtbcclolhfogpnaaDoorYw
namespace Go.Proofs.YtbcclolhfogpnaaDoor.dk
open Go.RowKit mm

/-- Two disks, each beside the reference's, and one owner. -/
structure TW (D : World → Addr → Bl → St → Prop) (w : World) (B : Nat) (pd rd pe re : Addr) (go : Nat) (Fd Frd Fe Fre Fo : Bl) (sd se : St) (n : Nat) : Prop where
  x : PS D w B pd rd go Fd Frd Fo sd sd n
  y : PS D w B pe re go Fe Fre Fo se se n
  z1 : ∀ k, Fd k → ¬ Fe k ∧ ¬ Fre k
  z2 : ∀ k, Frd k → ¬ Fe k ∧ ¬ Fre k
theorem TW.swap {D : World → Addr → Bl → St → Prop} {w : World} {B : Nat} {pd rd pe re : Addr} {go : Nat} {Fd Frd Fe Fre Fo : Bl} {sd se : St} {n : Nat} (h : TW D w B pd rd pe re go Fd Frd Fe Fre Fo sd se n) : TW D w B pe re pd rd go Fe Fre Fd Frd Fo se sd n :=
  ⟨h.y, h.x, fun k q => ⟨fun z => (h.z1 k z).1 q, fun z => (h.z2 k z).1 q⟩, fun k q => ⟨fun z => (h.z1 k z).2 q, fun z => (h.z2 k z).2 q⟩⟩
theorem TW.step {a b : Addr} {G : World → Prop} {D : World → Addr → Bl → St → Prop} (K : DiskOK a b G D) {w w' : World} {B : Nat} {pd rd pe re : Addr} {go : Nat} {Fd Frd Fe Fre Fo Fd' Frd' Fo' : Bl} {sd se sd' : St} {n m : Nat}
    (h : TW D w B pd rd pe re go Fd Frd Fe Fre Fo sd se n) (hx : PS D w' B pd rd go Fd' Frd' Fo' sd' sd' m) (hm : MM Fd Frd Fo Fd' Frd' Fo' w w') : TW D w' B pd rd pe re go Fd' Frd' Fe Fre Fo' sd' se m := by
  have same : ∀ k, Fe k ∨ Fre k → w'.heap[k]? = w.heap[k]? := fun k hk => by
    refine hm.block k (PS.lt K h.y k (by rcases hk with q | q; exact Or.inl q; exact Or.inr (Or.inl q))) (fun z => ?_) (fun z => ?_) (fun z => ?_)
    · rcases hk with q | q
      · exact (h.z1 k z).1 q
      · exact (h.z1 k z).2 q
    · rcases hk with q | q
      · exact (h.z2 k z).1 q
      · exact (h.z2 k z).2 q
    · rcases hk with q | q
      · exact h.y.j2 k q z
      · exact h.y.j3 k q z
  have lt1 : ∀ k, Fe k → k < w.heap.size := fun k q => PS.lt K h.y k (Or.inl q)
  have lt2 : ∀ k, Fre k → k < w.heap.size := fun k q => PS.lt K h.y k (Or.inr (Or.inl q))
  refine ⟨hx, ⟨K.dkeep w w' pe Fe se h.y.d (fun k q => same k (Or.inl q)), h.y.rd.keep (fun k q => same k (Or.inr q)), hx.ow, h.y.j1, fun k q z => ?_, fun k q z => ?_, fun k q => ?_⟩, fun k q => ?_, fun k q => ?_⟩
  · rcases hm.so k z with y | y
    · exact h.y.j2 k q y
    · have := lt1 k q; omega
  · rcases hm.so k z with y | y
    · exact h.y.j3 k q y
    · have := lt2 k q; omega
  · rcases q with q | q | q
    · exact h.y.ge k (Or.inl q)
    · exact h.y.ge k (Or.inr (Or.inl q))
    · exact hx.ge k (Or.inr (Or.inr q))
  · rcases hm.sf k q with y | y
    · exact h.z1 k y
    · exact ⟨fun z => by have := lt1 k z; omega, fun z => by have := lt2 k z; omega⟩
  · rcases hm.sr k q with y | y
    · exact h.z2 k y
    · exact ⟨fun z => by have := lt1 k z; omega, fun z => by have := lt2 k z; omega⟩

theorem new_rd {w : World} {g : Nat} (h : w.heap[g]? = some (.cells #[.slice none 0 0, .int .i64 0, .bool false, .int .i64 0] 29 (0, 0))) : RD w ⟨g, 0, none⟩ (fun k => k = g) st0 :=
  ⟨g, .slice none 0 0, rfl, ⟨_, h⟩, World.ownsRow_nil _ _ _ _, (fun q => by cases q), fun k => ⟨Or.inl, fun q => by rcases q with q | q; exact q; cases q⟩, wf0, by decide⟩
theorem new_ow {w : World} {B g : Nat} (h : w.heap[g]? = some (.cells #[.slice none 0 0, .slice none 0 0, .string (str [])] 33 (0, 0))) (hB : B ≤ g) : OW w B g (.slice none 0 0) [] (.slice none 0 0) [] :=
  ⟨h, World.ownsRow_nil _ _ _ _, World.ownsRow_nil _ _ _ _, (fun q => by cases q), (fun q => by cases q), (fun k q => by cases q), (fun e he => by cases he), hB⟩
theorem new_of (g : Nat) : ∀ k, (fun k => k = g) k ↔ OF g (.slice none 0 0) [] (.slice none 0 0) k := fun k => ⟨Or.inl, fun q => by
  rcases q with q | q | q | ⟨e, he, _⟩
  · exact q
  · cases q
  · cases q
  · cases he⟩
/-- The beginning. -/
theorem TW.start {a b : Addr} {G : World → Prop} {D : World → Addr → Bl → St → Prop} (K : DiskOK a b G D) {w w1 w2 w3 : World} {pd pe : Addr} {Fd Fe : Bl} (h1 : w.heap.size ≤ w1.heap.size) (d2 : D w2 pd Fd st0) (f2 : ∀ k, Fd k → w1.heap.size ≤ k) (b2 : Below w1.heap.size w1 w2)
    (d3 : D w3 pe Fe st0) (f3 : ∀ k, Fe k → w2.heap.size ≤ k) (b3 : Below w2.heap.size w2 w3) (W : World)
    (hW : W = ((w3.alloc (.cells #[.slice none 0 0, .int .i64 0, .bool false, .int .i64 0] 29)).alloc (.cells #[.slice none 0 0, .int .i64 0, .bool false, .int .i64 0] 29)).alloc (.cells #[.slice none 0 0, .slice none 0 0, .string (str [])] 33)) :
    TW D W w.heap.size pd ⟨w3.heap.size, 0, none⟩ pe ⟨w3.heap.size + 1, 0, none⟩ (w3.heap.size + 2) Fd (fun k => k = w3.heap.size) Fe (fun k => k = w3.heap.size + 1) (fun k => k = w3.heap.size + 2) st0 st0 0 ∧ Below w3.heap.size w3 W := by
  have s2 := b2.size
  have s3 := b3.size
  obtain ⟨A1, hA1⟩ : ∃ A, A = w3.alloc (.cells #[.slice none 0 0, .int .i64 0, .bool false, .int .i64 0] 29) := ⟨_, rfl⟩
  obtain ⟨A2, hA2⟩ : ∃ A, A = A1.alloc (.cells #[.slice none 0 0, .int .i64 0, .bool false, .int .i64 0] 29) := ⟨_, rfl⟩
  rw [← hA1, ← hA2] at hW
  have z1 : A1.heap.size = w3.heap.size + 1 := by rw [hA1, World.size_alloc]
  have z2 : A2.heap.size = w3.heap.size + 2 := by rw [hA2, World.size_alloc, z1]
  have z3 : W.heap.size = w3.heap.size + 3 := by rw [hW, World.size_alloc, z2]
  have e1 : Below w3.heap.size w3 A1 := by rw [hA1]; exact (Below.refl _ _).alloc (Nat.le_refl _) _
  have e2 : Below A1.heap.size A1 A2 := by rw [hA2]; exact (Below.refl _ _).alloc (Nat.le_refl _) _
  have e3 : Below A2.heap.size A2 W := by rw [hW]; exact (Below.refl _ _).alloc (Nat.le_refl _) _
  have g1 : W.heap[w3.heap.size]? = some (.cells #[.slice none 0 0, .int .i64 0, .bool false, .int .i64 0] 29 (0, 0)) := by
    rw [e3.block _ (by omega), e2.block _ (by omega), hA1]; exact heap_alloc_new _ _
  have g2 : W.heap[w3.heap.size + 1]? = some (.cells #[.slice none 0 0, .int .i64 0, .bool false, .int .i64 0] 29 (0, 0)) := by
    rw [e3.block _ (by omega), hA2, ← z1]; exact heap_alloc_new _ _
  have g3 : W.heap[w3.heap.size + 2]? = some (.cells #[.slice none 0 0, .slice none 0 0, .string (str [])] 33 (0, 0)) := by
    rw [hW, ← z2]; exact heap_alloc_new _ _
  have all : Below w3.heap.size w3 W := (e1.trans (e2.mono (by omega))).trans (e3.mono (by omega))
  have ltd : ∀ k, Fd k → k < w2.heap.size := fun k q => K.dlt w2 pd Fd st0 d2 k q
  have lte : ∀ k, Fe k → k < w3.heap.size := fun k q => K.dlt w3 pe Fe st0 d3 k q
  have dd : D W pd Fd st0 := K.dkeep w2 W pd Fd st0 d2 (fun k q => by
    have := ltd k q
    rw [all.block k (by omega), b3.block k (by omega)])
  have de : D W pe Fe st0 := K.dkeep w3 W pe Fe st0 d3 (fun k q => all.block k (lte k q))
  have ow : ∃ lv es hv hl, OW W w.heap.size (w3.heap.size + 2) lv es hv hl ∧ (∀ k, (fun k => k = w3.heap.size + 2) k ↔ OF (w3.heap.size + 2) lv es hv k) ∧ es.length ≤ 0 ∧ hl.length ≤ 70000000000000 := ⟨_, _, _, _, new_ow g3 (by omega), new_of _, by simp, by simp⟩
  refine ⟨⟨⟨dd, new_rd g1, ow, fun k q z => ?_, fun k q z => ?_, fun k q z => ?_, fun k q => ?_⟩, ⟨de, new_rd g2, ow, fun k q z => ?_, fun k q z => ?_, fun k q z => ?_, fun k q => ?_⟩, fun k q => ⟨fun z => ?_, fun z => ?_⟩, fun k q => ⟨fun z => ?_, fun z => ?_⟩⟩, all⟩
  · have := ltd k q; omega
  · have := ltd k q; omega
  · omega
  · rcases q with q | q | q
    · have := f2 k q; omega
    · omega
    · omega
  · have := lte k q; omega
  · have := lte k q; omega
  · omega
  · rcases q with q | q | q
    · have := f3 k q; omega
    · omega
    · omega
  · have := ltd k q; have := f3 k z; omega
  · have := ltd k q; omega
  · have := lte k z; omega
  · omega
end Go.Proofs.YtbcclolhfogpnaaDoor.dk
