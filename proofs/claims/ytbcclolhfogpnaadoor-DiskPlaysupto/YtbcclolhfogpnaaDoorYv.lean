/- DiskPlays: a disk, the reference's, and the owner, side by side. -/
import Derived.Test.YtbcclolhfogpnaaDoorYu
namespace Go.Proofs.YtbcclolhfogpnaaDoor.dk
open Go.RowKit mm

/-- A disk at p that is s, the reference's at r that is t, the owner at go: apart from one another. -/
structure PS (D : World → Addr → Bl → St → Prop) (w : World) (B : Nat) (p r : Addr) (go : Nat) (F Fr Fo : Bl) (s t : St) (n : Nat) : Prop where
  d : D w p F s
  rd : RD w r Fr t
  ow : ∃ lv es hv hl, OW w B go lv es hv hl ∧ (∀ k, Fo k ↔ OF go lv es hv k) ∧ es.length ≤ n ∧ hl.length ≤ 70000000000000
  j1 : ∀ k, F k → ¬ Fr k
  j2 : ∀ k, F k → ¬ Fo k
  j3 : ∀ k, Fr k → ¬ Fo k
  ge : ∀ k, F k ∨ Fr k ∨ Fo k → B ≤ k
/-- How the memory moved. -/
structure MM (F Fr Fo F' Fr' Fo' : Bl) (w w' : World) : Prop where
  os : w'.os = w.os
  tape : w'.tape = w.tape
  output : w'.output = w.output
  size : w.heap.size ≤ w'.heap.size
  block : ∀ k, k < w.heap.size → ¬ F k → ¬ Fr k → ¬ Fo k → w'.heap[k]? = w.heap[k]?
  sf : ∀ k, F' k → F k ∨ w.heap.size ≤ k
  sr : ∀ k, Fr' k → Fr k ∨ w.heap.size ≤ k
  so : ∀ k, Fo' k → Fo k ∨ w.heap.size ≤ k
theorem MM.trans {F Fr Fo F' Fr' Fo' F'' Fr'' Fo'' : Bl} {w w' w'' : World} (h : MM F Fr Fo F' Fr' Fo' w w') (k : MM F' Fr' Fo' F'' Fr'' Fo'' w' w'') : MM F Fr Fo F'' Fr'' Fo'' w w'' := by
  have s1 := h.size
  have sub : ∀ {X X' X'' : Bl}, (∀ i, X' i → X i ∨ w.heap.size ≤ i) → (∀ i, X'' i → X' i ∨ w'.heap.size ≤ i) → ∀ i, X'' i → X i ∨ w.heap.size ≤ i := fun a b i hi => by
    rcases b i hi with z | z
    · exact a i z
    · exact Or.inr (by omega)
  refine ⟨k.os.trans h.os, k.tape.trans h.tape, k.output.trans h.output, Nat.le_trans h.size k.size, fun i hi n1 n2 n3 => ?_, sub h.sf k.sf, sub h.sr k.sr, sub h.so k.so⟩
  have no : ∀ {X X' : Bl}, (∀ i, X' i → X i ∨ w.heap.size ≤ i) → ¬ X i → ¬ X' i := fun a n z => by
    rcases a i z with y | y
    · exact n y
    · omega
  exact (k.block i (by omega) (no h.sf n1) (no h.sr n2) (no h.so n3)).trans (h.block i hi n1 n2 n3)
theorem MM.quiet {w w' : World} (F Fr Fo : Bl) (h : Below w.heap.size w w') : MM F Fr Fo F Fr Fo w w' := ⟨h.os, h.tape, h.output, h.size, fun k hk _ _ _ => h.block k hk, fun _ q => Or.inl q, fun _ q => Or.inl q, fun _ q => Or.inl q⟩
theorem MM.ofF {F F' : Bl} {w w' : World} (Fr Fo : Bl) (h : Mv F F' w w') : MM F Fr Fo F' Fr Fo w w' := ⟨h.os, h.tape, h.output, h.size, fun k hk n _ _ => h.block k hk n, h.sub, fun _ q => Or.inl q, fun _ q => Or.inl q⟩
theorem MM.ofR {Fr Fr' : Bl} {w w' : World} (F Fo : Bl) (h : Mv Fr Fr' w w') : MM F Fr Fo F Fr' Fo w w' := ⟨h.os, h.tape, h.output, h.size, fun k hk _ n _ => h.block k hk n, fun _ q => Or.inl q, h.sub, fun _ q => Or.inl q⟩

section
variable {a b : Addr} {G : World → Prop} {D : World → Addr → Bl → St → Prop}
variable {w w' : World} {B : Nat} {p r : Addr} {go : Nat} {F F' Fr Fr' Fo : Bl} {s s' t t' : St} {n : Nat}
theorem PS.size (h : PS D w B p r go F Fr Fo s t n) : B ≤ w.heap.size := by
  obtain ⟨lv, es, hv, hl, ho, _⟩ := h.ow
  have := ho.lt go (Or.inl rfl)
  omega
theorem PS.olt (h : PS D w B p r go F Fr Fo s t n) : ∀ k, Fo k → k < w.heap.size := fun k hk => by
  obtain ⟨lv, es, hv, hl, ho, hF, _⟩ := h.ow
  exact (ho.lt k ((hF k).mp hk)).2
theorem PS.move (K : DiskOK a b G D) (h : PS D w B p r go F Fr Fo s t n) (hk : ∀ k, F k ∨ Fr k ∨ Fo k → w'.heap[k]? = w.heap[k]?) : PS D w' B p r go F Fr Fo s t n := by
  obtain ⟨lv, es, hv, hl, ho, hF, h3, h4⟩ := h.ow
  exact ⟨K.dkeep w w' p F s h.d (fun k q => hk k (Or.inl q)), h.rd.keep (fun k q => hk k (Or.inr (Or.inl q))), ⟨lv, es, hv, hl, ho.keep (fun k q => hk k (Or.inr (Or.inr ((hF k).mpr q)))), hF, h3, h4⟩, h.j1, h.j2, h.j3, h.ge⟩
theorem PS.lt (K : DiskOK a b G D) (h : PS D w B p r go F Fr Fo s t n) : ∀ k, F k ∨ Fr k ∨ Fo k → k < w.heap.size := fun k hk => by
  rcases hk with q | q | q
  · exact K.dlt w p F s h.d k q
  · exact h.rd.lt k q
  · exact PS.olt h k q
theorem PS.quiet (K : DiskOK a b G D) (h : PS D w B p r go F Fr Fo s t n) (hb : Below w.heap.size w w') : PS D w' B p r go F Fr Fo s t n := PS.move K h (fun k q => hb.block k (PS.lt K h k q))
theorem PS.upd {g : Nat} (K : DiskOK a b G D) (h : PS D w B p r go F Fr Fo s t n) (hu : Upd g w w') (hg : ¬ (F g ∨ Fr g ∨ Fo g)) : PS D w' B p r go F Fr Fo s t n := PS.move K h (fun k q => hu.block k (fun z => hg (by rw [← z]; exact q)))
theorem PS.ofF (h : PS D w B p r go F Fr Fo s t n) (hd : D w' p F' s') (hm : Mv F F' w w') : PS D w' B p r go F' Fr Fo s' t n := by
  obtain ⟨lv, es, hv, hl, ho, hF, h3, h4⟩ := h.ow
  have hB := PS.size h
  refine ⟨hd, h.rd.keep (fun k q => hm.block k (h.rd.lt k q) (fun z => h.j1 k z q)), ⟨lv, es, hv, hl, ho.keep (fun k q => hm.block k (ho.lt k q).2 (fun z => h.j2 k z ((hF k).mpr q))), hF, h3, h4⟩, fun k q z => ?_, fun k q z => ?_, h.j3, fun k q => ?_⟩
  · rcases hm.sub k q with y | y
    · exact h.j1 k y z
    · have := h.rd.lt k z; omega
  · rcases hm.sub k q with y | y
    · exact h.j2 k y z
    · have := PS.olt h k z; omega
  · rcases q with q | q
    · rcases hm.sub k q with y | y
      · exact h.ge k (Or.inl y)
      · omega
    · exact h.ge k (Or.inr q)
theorem PS.ofR (K : DiskOK a b G D) (h : PS D w B p r go F Fr Fo s t n) (hd : RD w' r Fr' t') (hm : Mv Fr Fr' w w') : PS D w' B p r go F Fr' Fo s t' n := by
  obtain ⟨lv, es, hv, hl, ho, hF, h3, h4⟩ := h.ow
  have hB := PS.size h
  refine ⟨K.dkeep w w' p F s h.d (fun k q => hm.block k (K.dlt w p F s h.d k q) (h.j1 k q)), hd, ⟨lv, es, hv, hl, ho.keep (fun k q => hm.block k (ho.lt k q).2 (fun z => h.j3 k z ((hF k).mpr q))), hF, h3, h4⟩, fun k q z => ?_, h.j2, fun k q z => ?_, fun k q => ?_⟩
  · rcases hm.sub k z with y | y
    · exact h.j1 k q y
    · have := K.dlt w p F s h.d k q; omega
  · rcases hm.sub k q with y | y
    · exact h.j3 k y z
    · have := PS.olt h k z; omega
  · rcases q with q | q | q
    · exact h.ge k (Or.inl q)
    · rcases hm.sub k q with y | y
      · exact h.ge k (Or.inr (Or.inl y))
      · omega
    · exact h.ge k (Or.inr (Or.inr q))
theorem PS.below {w0 : World} {Fr' Fo' : Bl} (h : PS D w w0.heap.size p r go F Fr Fo s t n) (hm : MM F Fr Fo F' Fr' Fo' w w') (hb : Below w0.heap.size w0 w) : Below w0.heap.size w0 w' := by
  have hs := hb.size
  refine ⟨hm.os.trans hb.os, hm.tape.trans hb.tape, hm.output.trans hb.output, Nat.le_trans hb.size hm.size, fun k hk => ?_⟩
  refine (hm.block k (by omega) (fun q => ?_) (fun q => ?_) (fun q => ?_)).trans (hb.block k hk)
  · have := h.ge k (Or.inl q); omega
  · have := h.ge k (Or.inr (Or.inl q)); omega
  · have := h.ge k (Or.inr (Or.inr q)); omega
theorem PS.more (h : PS D w B p r go F Fr Fo s t n) {m : Nat} (hm : n ≤ m) : PS D w B p r go F Fr Fo s t m := by
  obtain ⟨lv, es, hv, hl, ho, hF, h3, h4⟩ := h.ow
  exact ⟨h.d, h.rd, ⟨lv, es, hv, hl, ho, hF, Nat.le_trans h3 hm, h4⟩, h.j1, h.j2, h.j3, h.ge⟩
end
end Go.Proofs.YtbcclolhfogpnaaDoor.dk
