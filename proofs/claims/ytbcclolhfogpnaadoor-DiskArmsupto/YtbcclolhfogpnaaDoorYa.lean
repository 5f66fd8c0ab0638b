/- Package disk, pure: what each act does to a file and to its power; what is asked of the package. -/
import Derived.Test.YtbcclolhfogpnaaDoorMy
import Derived.LaidEql
namespace Go.Proofs.YtbcclolhfogpnaaDoor.dk
open Go.RowKit mm

/-- A disk: the file, how many of its bytes are safe, is the power off, in the so manyth act it goes (0: never). -/
structure St where
  file : List UInt8
  syn : Nat
  off : Bool
  arm : Nat
/-- The errors: 0 none, 1 ErrArg, 2 ErrDown. -/
def sApp (s : St) (b : List UInt8) : St × Nat :=
  if s.off then (s, 2) else if s.arm = 1 then (⟨s.file ++ b, s.syn, true, 0⟩, 2) else (⟨s.file ++ b, s.syn, false, s.arm - 1⟩, 0)
def sSyn (s : St) : St × Nat :=
  if s.off then (s, 2) else if s.arm = 1 then (⟨s.file, s.syn, true, 0⟩, 2) else (⟨s.file, s.file.length, false, s.arm - 1⟩, 0)
def sCut (s : St) (n : Int) : St × Nat :=
  if s.off then (s, 2) else if n < 0 ∨ (s.file.length : Int) < n then (s, 1) else if s.arm = 1 then (⟨s.file, s.syn, true, 0⟩, 2) else (⟨s.file.take n.toNat, min s.syn n.toNat, false, s.arm - 1⟩, 0)
def sArm (s : St) (n : Int) : St := { s with arm := n.toNat }
/-- Is a bit turned? -/
def bitOn (at_ : Int) (turn : Nat) (i : Nat) : Bool := decide (0 ≤ at_) && decide (at_ ≤ (i : Int)) && decide ((i : Int) - at_ ≤ 31) && turn.testBit (31 - ((i : Int) - at_).toNat)
/-- A byte of eight bits, the highest first. -/
def byteOf (f : Nat → Bool) : UInt8 := UInt8.ofNat ((f 0).toNat * 128 + (f 1).toNat * 64 + (f 2).toNat * 32 + (f 3).toNat * 16 + (f 4).toNat * 8 + (f 5).toNat * 4 + (f 6).toNat * 2 + (f 7).toNat)
def mask (at_ : Int) (turn : Nat) (k : Nat) : UInt8 := byteOf (fun j => bitOn at_ turn (8 * k + j))
def tear (at_ : Int) (turn : Nat) (t : List UInt8) : List UInt8 := t.mapIdx (fun k b => b ^^^ mask at_ turn k)
def sCrash (s : St) (keep at_ : Int) (turn : Nat) : St :=
  let f := s.file.take s.syn ++ tear at_ turn ((s.file.drop s.syn).take keep.toNat)
  ⟨f, f.length, false, 0⟩
def st0 : St := ⟨[], 0, false, 0⟩
/-- No more is safe than there is. -/
def Wf (s : St) : Prop := s.syn ≤ s.file.length
theorem wf0 : Wf st0 := Nat.le_refl _
theorem wf_app {s : St} (h : Wf s) (b : List UInt8) : Wf (sApp s b).1 := by
  unfold sApp Wf at *
  split
  · exact h
  · split <;> (simp only [List.length_append]; omega)
theorem wf_syn {s : St} (h : Wf s) : Wf (sSyn s).1 := by
  unfold sSyn Wf at *
  split
  · exact h
  · split
    · exact h
    · exact Nat.le_refl _
theorem wf_cut {s : St} (h : Wf s) (n : Int) : Wf (sCut s n).1 := by
  unfold sCut Wf at *
  split
  · exact h
  · split
    · exact h
    · split
      · exact h
      · simp only [List.length_take]; omega
theorem wf_arm {s : St} (h : Wf s) (n : Int) : Wf (sArm s n) := h
theorem wf_crash (s : St) (k a : Int) (t : Nat) : Wf (sCrash s k a t) := Nat.le_refl _
theorem tear_len (a : Int) (t : Nat) (l : List UInt8) : (tear a t l).length = l.length := by unfold tear; simp
theorem tear_tear (a : Int) (t : Nat) (l : List UInt8) : tear a t (tear a t l) = l := by
  unfold tear
  apply List.ext_getElem?
  intro i
  rw [List.getElem?_mapIdx, List.getElem?_mapIdx]
  cases l[i]? with
  | none => rfl
  | some b => simp [UInt8.xor_assoc]
theorem crash_len {s : St} (h : Wf s) (k a : Int) (t : Nat) : (sCrash s k a t).file.length ≤ s.file.length := by
  unfold sCrash Wf at *
  simp only [List.length_append, tear_len, List.length_take, List.length_drop]
  omega

/-- What the two errors' variables hold. -/
structure Sent (w : World) (a b : Addr) : Prop where
  ca : w.cell? ⟨1, 0, none⟩ = some (.iface 66 (.pointer (some a)))
  cd : w.cell? ⟨0, 0, none⟩ = some (.iface 66 (.pointer (some b)))
  ne : a ≠ b
  la : ∃ c t, w.heap[a.block]? = some (.cells c t (0, 0))
  lb : ∃ c t, w.heap[b.block]? = some (.cells c t (0, 0))
theorem Sent.keep {w w' : World} {a b : Addr} (h : Sent w a b) (hb : Below w.heap.size w w') : Sent w' a b := by
  obtain ⟨ca, ta, ha⟩ := h.la
  obtain ⟨cb, tb, hc⟩ := h.lb
  exact ⟨by rw [hb.cell (cell_lt h.ca)]; exact h.ca, by rw [hb.cell (cell_lt h.cd)]; exact h.cd, h.ne, ⟨ca, ta, (hb.block _ (blk_lt ha)).trans ha⟩, ⟨cb, tb, (hb.block _ (blk_lt hc)).trans hc⟩⟩
/-- An error's value. -/
def er (a b : Addr) : Nat → Value
  | 0 => .nilIface
  | 1 => .iface 66 (.pointer (some a))
  | _ => .iface 66 (.pointer (some b))
theorem infoP : (Tryd.prog.info? 66).map (fun i => i.comparable) = some true := by kernel_rfl
theorem infoE : (Tryd.prog.info? 82).map (fun i => i.size) = some 1 := by kernel_rfl
theorem eql_same (w : World) (a : Addr) : (binOp .eql 42 (.iface 66 (.pointer (some a))) (.iface 66 (.pointer (some a)))).run Tryd.prog w = .ok (.bool true) w := by
  have hi := infoP
  have hj := infoE
  cases h1 : Tryd.prog.info? 66 with
  | none => rw [h1] at hi; cases hi
  | some i =>
    cases h2 : Tryd.prog.info? 82 with
    | none => rw [h2] at hj; cases hj
    | some j =>
      rw [h1] at hi
      exact run_eql_iface_ptr_same w a Tryd.underlying42 Tryd.underlying66 h1 (by simpa using hi) h2
theorem eql_other (w : World) {a b : Addr} (hne : a ≠ b) (la : ∃ c t, w.heap[a.block]? = some (.cells c t (0, 0))) (lb : ∃ c t, w.heap[b.block]? = some (.cells c t (0, 0))) :
    (binOp .eql 42 (.iface 66 (.pointer (some a))) (.iface 66 (.pointer (some b)))).run Tryd.prog w = .ok (.bool false) w := by
  obtain ⟨ca, ta, ha⟩ := la
  obtain ⟨cb, tb, hb⟩ := lb
  have hi := infoP
  have hj := infoE
  cases h1 : Tryd.prog.info? 66 with
  | none => rw [h1] at hi; cases hi
  | some i =>
    cases h2 : Tryd.prog.info? 82 with
    | none => rw [h2] at hj; cases hj
    | some j =>
      rw [h1] at hi
      rw [h2] at hj
      have hj' : j.size = 1 := by simpa using hj
      exact run_eql_iface_ptr_other w Tryd.underlying42 Tryd.underlying66 h1 (by simpa using hi) h2 (by omega) hne ha hb

/-- Blocks that something holds. -/
def Bl := Nat → Prop
/-- A step of the memory: of what was there the blocks of F alone may have changed; what F' holds was F's, or is new. -/
structure Mv (F F' : Bl) (w w' : World) : Prop where
  os : w'.os = w.os
  tape : w'.tape = w.tape
  output : w'.output = w.output
  size : w.heap.size ≤ w'.heap.size
  block : ∀ k, k < w.heap.size → ¬ F k → w'.heap[k]? = w.heap[k]?
  sub : ∀ k, F' k → F k ∨ w.heap.size ≤ k
theorem Mv.below {F F' : Bl} {w w' w0 : World} {B : Nat} (h : Mv F F' w w') (hb : Below B w0 w) (hF : ∀ k, F k → B ≤ k) (hB : B ≤ w.heap.size) : Below B w0 w' :=
  ⟨h.os.trans hb.os, h.tape.trans hb.tape, h.output.trans hb.output, Nat.le_trans hb.size h.size, fun k hk => (h.block k (by omega) (fun q => by have := hF k q; omega)).trans (hb.block k hk)⟩
theorem Mv.from {F F' : Bl} {w w' : World} {B : Nat} (h : Mv F F' w w') (hF : ∀ k, F k → B ≤ k) (hB : B ≤ w.heap.size) : ∀ k, F' k → B ≤ k := fun k hk => by
  rcases h.sub k hk with q | q
  · exact hF k q
  · omega

theorem Mv.trans {F F' F'' : Bl} {w w' w'' : World} (h : Mv F F' w w') (k : Mv F' F'' w' w'') : Mv F F'' w w'' :=
  ⟨k.os.trans h.os, k.tape.trans h.tape, k.output.trans h.output, Nat.le_trans h.size k.size,
    fun i hi hn => (k.block i (by have := h.size; omega) (fun q => by rcases h.sub i q with z | z; exact hn z; omega)).trans (h.block i hi hn),
    fun i hi => by
      rcases k.sub i hi with q | q
      · exact h.sub i q
      · exact Or.inr (by have := h.size; omega)⟩
theorem Mv.quiet (F : Bl) {w w' : World} (h : Below w.heap.size w w') : Mv F F w w' := ⟨h.os, h.tape, h.output, h.size, fun k hk _ => h.block k hk, fun _ hk => Or.inl hk⟩
theorem Mv.al (F : Bl) (w : World) (o : Obj) : Mv F F w (w.alloc o) := Mv.quiet F ((Below.refl _ _).alloc (Nat.le_refl _) o)
theorem Mv.by {F F' : Bl} {w w' : World} (h : Mv F F' w w') {v : Value} {l : List UInt8} (hb : BY w v l) (hF : ∀ k, F k → v.ownBlock ≠ some k) : BY w' v l := by
  obtain ⟨hl, oa, c, rfl, h1, h2, h3, h4⟩ := hb
  refine ⟨hl, oa, c, rfl, h1, h2, h3, fun a ha j u hu => ?_⟩
  have := h4 a ha j u hu
  subst ha
  rw [World.cell?_of_block (w := w) (h.block _ (cell_lt this) (fun q => hF _ q (by unfold Addr.add; split <;> rfl)))]
  exact this
theorem Mv.cell {F F' : Bl} {w w' : World} (h : Mv F F' w w') {p : Addr} (hp : p.block < w.heap.size) (hF : ¬ F p.block) : w'.cell? p = w.cell? p := World.cell?_of_block (w := w) (h.block _ hp hF)

/-- What is asked of package disk: G: what its variables hold; D w p F s: the disk at p, in the blocks F, is s. -/
structure DiskOK (a b : Addr) (G : World → Prop) (D : World → Addr → Bl → St → Prop) : Prop where
  keep : ∀ w w', G w → Below w.heap.size w w' → G w'
  sent : ∀ w, G w → Sent w a b
  dlt : ∀ w p F s, D w p F s → ∀ k, F k → k < w.heap.size
  dkeep : ∀ w w' p F s, D w p F s → (∀ k, F k → w'.heap[k]? = w.heap[k]?) → D w' p F s
  wf : ∀ w p F s, D w p F s → Wf s
  new : ∀ w, G w → Calls Tryd.prog 8 #[] w fun e w' => ∃ p F, e = .returned (.pointer (some p)) ∧ D w' p F st0 ∧ (∀ k, F k → w.heap.size ≤ k) ∧ Below w.heap.size w w'
  append : ∀ w p F s v l, G w → D w p F s → BY w v l → s.file.length + l.length ≤ 70000000000000 → Calls Tryd.prog 15 #[.pointer (some p), v] w fun e w' => ∃ F', e = .returned (er a b (sApp s l).2) ∧ D w' p F' (sApp s l).1 ∧ Mv F F' w w'
  sync : ∀ w p F s, G w → D w p F s → Calls Tryd.prog 16 #[.pointer (some p)] w fun e w' => ∃ F', e = .returned (er a b (sSyn s).2) ∧ D w' p F' (sSyn s).1 ∧ Mv F F' w w'
  cut : ∀ w p F s n, G w → D w p F s → -9223372036854775808 ≤ n → n ≤ 9223372036854775807 → Calls Tryd.prog 21 #[.pointer (some p), .int .i64 n] w fun e w' => ∃ F', e = .returned (er a b (sCut s n).2) ∧ D w' p F' (sCut s n).1 ∧ Mv F F' w w'
  arm : ∀ w p F s n, G w → D w p F s → -9223372036854775808 ≤ n → n ≤ 9223372036854775807 → Calls Tryd.prog 17 #[.pointer (some p), .int .i64 n] w fun e w' => ∃ F', e = .returned (.tuple #[]) ∧ D w' p F' (sArm s n) ∧ Mv F F' w w'
  crash : ∀ w p F s k t (u : Nat), G w → D w p F s → s.file.length ≤ 70000000000000 → -9223372036854775808 ≤ k → k ≤ 9223372036854775807 → -9223372036854775808 ≤ t → t ≤ 9223372036854775807 → u < 4294967296 →
    Calls Tryd.prog 19 #[.pointer (some p), .int .i64 k, .int .i64 t, .int .u32 (u : Int)] w fun e w' => ∃ F', e = .returned (.tuple #[]) ∧ D w' p F' (sCrash s k t u) ∧ Mv F F' w w'
  bytes : ∀ w p F s, G w → D w p F s → s.file.length ≤ 70000000000000 → Calls Tryd.prog 11 #[.pointer (some p)] w fun e w' => ∃ v, e = .returned v ∧ OY w' w.heap.size v s.file ∧ Below w.heap.size w w'
  synced : ∀ w p F s, G w → D w p F s → Calls Tryd.prog 13 #[.pointer (some p)] w fun e w' => e = .returned (.int .i64 (s.syn : Int)) ∧ Below w.heap.size w w'
  up : ∀ w p F s, G w → D w p F s → Calls Tryd.prog 18 #[.pointer (some p)] w fun e w' => e = .returned (.bool (!s.off)) ∧ Below w.heap.size w w'
end Go.Proofs.YtbcclolhfogpnaaDoor.dk
