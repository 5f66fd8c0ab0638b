/- Several texts in one. -/
import Derived.Test.YtmnikcnjdeldeaaDoorShelf
import Derived.Test.YtmnikcnjdeldeaaDoorChecked
import Derived.WalkKit
import Derived.Deep.QuietTactic
import Derived.BigQuiet
import Derived.Outline
import Derived.WalkLawsBesides
import Derived.Lib.SmallJoins
import Derived.Scope
import Derived.ScopeJumps
import Derived.Below
import Derived.Deep.Draws
import Derived.Lib.Bytealg
import Derived.WalkMore
import Derived.Deep.RegionWith
/- The contracts of the reader's two methods, 'ended' and 'takes': whatever the text, the place and the set of bytes; the reader lies in a block of its own. -/
namespace Go.Proofs.YtmnikcnjdeldeaaDoor.rd
open Go.RowKit

theorem bcell {W w1 : World} (hb : Below W.heap.size W w1) : (∀ b o, b < W.heap.size → w1.cell? ⟨b, o, none⟩ = W.cell? ⟨b, o, none⟩) ∧ (∀ b o, b < W.heap.size → w1.frozen? ⟨b, o, none⟩ = W.frozen? ⟨b, o, none⟩) :=
  ⟨fun b o h => hb.cell (p := ⟨b, o, none⟩) h, fun b o h => hb.frozen (p := ⟨b, o, none⟩) h⟩

end Go.Proofs.YtmnikcnjdeldeaaDoor.rd

/- A scope with several labels between which the run jumps: what holds at each jump, and a number that every pass lowers. -/
namespace Go.Proofs.YtmnikcnjdeldeaaDoor
open Go Go.RowKit

/-- By a goto: what must hold at that label; else as Q. -/
def Jumps (J : Nat → Act → World → Prop) (Q : Exit → Act → World → Prop) : Exit → Act → World → Prop
  | .goto l, a, w => J l a w
  | e, a, w => Q e a w

theorem Jumps.goto (J : Nat → Act → World → Prop) (Q : Exit → Act → World → Prop) (l : Nat) (a : Act) (w : World) : Jumps J Q (.goto l) a w = J l a w := rfl
theorem Jumps.ret (J : Nat → Act → World → Prop) (Q : Exit → Act → World → Prop) (a : Act) (w : World) : Jumps J Q .ret a w = Q .ret a w := rfl

theorem wp_scope_labels {P : Program} {a : Act} {w : World} {Q : Exit → Act → World → Prop} {c : Code} (J : Nat → Nat → Act → World → Prop)
    (first : c.wp P (Jumps (fun l a' w' => ∃ n, J n l a' w') Q) a w)
    (pass : ∀ n l a w, J n l a w → ∃ rest, findLabel c l = some rest ∧ rest.wp P (Jumps (fun l' a' w' => ∃ n', n' < n ∧ J n' l' a' w') Q) a w) : (Code.scope c).wp P Q a w := by
  intro b k cs
  have key : ∀ n l a w, J n l a w → ∃ rest, findLabel c l = some rest ∧ ∃ e a' w', Q e a' w' ∧ Arrives P (lone (b.at a (.code rest :: .inScope c :: k)) cs w) b k cs e a' w' := by
    intro n
    induction n using Nat.strongRecOn with
    | _ n ih =>
      intro l a w hJ
      obtain ⟨rest, hf, hp⟩ := pass n l a w hJ
      refine ⟨rest, hf, ?_⟩
      obtain ⟨e, a₁, w₁, hq, harr⟩ := hp b (.inScope c :: k) cs
      cases e with
      | normal => exact ⟨.normal, a₁, w₁, hq, Steps.trans harr (.one step_inScope)⟩
      | exit id => exact ⟨.exit id, a₁, w₁, hq, fun k' hk => harr k' (by simp [exitTo, hk])⟩
      | goto l' =>
        obtain ⟨n', hlt, hJ'⟩ := hq
        obtain ⟨rest', hf', e₂, a₂, w₂, hq₂, harr₂⟩ := ih n' hlt l' a₁ w₁ hJ'
        have hg : gotoIn l' (.inScope c :: k) = some (.code rest' :: .inScope c :: k) := by simp [gotoIn, hf']
        exact ⟨e₂, a₂, w₂, hq₂, .of_steps (harr _ hg) harr₂⟩
      | ret => exact ⟨_, a₁, w₁, hq, harr⟩
      | panic ch => exact ⟨_, a₁, w₁, hq, harr⟩
      | outgrown => exact ⟨_, a₁, w₁, hq, harr⟩
  obtain ⟨e, a₁, w₁, hq, harr⟩ := first b (.inScope c :: k) cs
  cases e with
  | normal => exact ⟨.normal, a₁, w₁, hq, .head step_scope (Steps.trans harr (.one step_inScope))⟩
  | exit id => exact ⟨.exit id, a₁, w₁, hq, fun k' hk => .head step_scope (harr k' (by simp [exitTo, hk]))⟩
  | goto l' =>
    obtain ⟨n', hJ'⟩ := hq
    obtain ⟨rest', hf', e₂, a₂, w₂, hq₂, harr₂⟩ := key n' l' a₁ w₁ hJ'
    have hg : gotoIn l' (.inScope c :: k) = some (.code rest' :: .inScope c :: k) := by simp [gotoIn, hf']
    exact ⟨e₂, a₂, w₂, hq₂, .of_steps (.head step_scope (harr _ hg)) harr₂⟩
  | ret => exact ⟨_, a₁, w₁, hq, .of_steps (.one step_scope) harr⟩
  | panic ch => exact ⟨_, a₁, w₁, hq, .of_steps (.one step_scope) harr⟩
  | outgrown => exact ⟨_, a₁, w₁, hq, .of_steps (.one step_scope) harr⟩

/-- One block alone has been written; none is new. -/
structure Upd (b : Nat) (w w' : World) : Prop where
  os : w'.os = w.os
  tape : w'.tape = w.tape
  output : w'.output = w.output
  size : w'.heap.size = w.heap.size
  block : ∀ k, k ≠ b → w'.heap[k]? = w.heap[k]?

theorem Upd.refl (b : Nat) (w : World) : Upd b w w := ⟨rfl, rfl, rfl, rfl, fun _ _ => rfl⟩
theorem Upd.trans {b : Nat} {u v w : World} (h : Upd b u v) (k : Upd b v w) : Upd b u w :=
  ⟨k.os.trans h.os, k.tape.trans h.tape, k.output.trans h.output, k.size.trans h.size, fun i hi => (k.block i hi).trans (h.block i hi)⟩
theorem Upd.drewN (b : Nat) (w : World) (n : Nat) : Upd b w (w.drewN n) := ⟨rfl, rfl, rfl, rfl, fun _ _ => rfl⟩
theorem Upd.setCell (b o : Nat) (w : World) (v : Value) : Upd b w (w.setCell ⟨b, o, none⟩ v) :=
  ⟨rfl, rfl, rfl, by simp [World.setCell], fun k hk => Below.heap_setCell _ _ _ _ (by simpa using hk)⟩
theorem Upd.below {b : Nat} {w w' : World} (h : Upd b w w') {B : Nat} (hB : B ≤ b) : Below B w w' :=
  ⟨h.os, h.tape, h.output, Nat.le_of_eq h.size.symm, fun k hk => h.block k (by omega)⟩


theorem hide {p : Prop} (h : p) : Hid p := h
theorem unhide {p : Prop} (h : Hid p) : p := h

theorem blk_cell {w : World} {b : Nat} {cs : Array Value} {t : TypeId} {f : Nat × Nat} (h : w.heap[b]? = some (.cells cs t f)) (o : Nat) : w.cell? ⟨b, o, none⟩ = cs[o]? := by
  simp [World.cell?, h]
theorem blk_free {w : World} {b : Nat} {cs : Array Value} {t : TypeId} (h : w.heap[b]? = some (.cells cs t (0, 0))) (o : Nat) : w.frozen? ⟨b, o, none⟩ = false := by
  simp [World.frozen?, h]
theorem blk_set {w : World} {b : Nat} {cs : Array Value} {t : TypeId} {f : Nat × Nat} (h : w.heap[b]? = some (.cells cs t f)) (o : Nat) (v : Value) :
    (w.setCell ⟨b, o, none⟩ v).heap[b]? = some (.cells (cs.setIfInBounds o v) t f) := by
  simp only [World.setCell, Array.getElem?_modify, h]
  simp
theorem blk_lt {w : World} {b : Nat} {o : Obj} (h : w.heap[b]? = some o) : b < w.heap.size := by
  rcases Nat.lt_or_ge b w.heap.size with h' | h'
  · exact h'
  · rw [Array.getElem?_eq_none h'] at h; cases h

end Go.Proofs.YtmnikcnjdeldeaaDoor

/- What a numeral's text says, place by place, as a plain function: no program in it. -/
namespace Go.Proofs.YtmnikcnjdeldeaaDoor.nu

def dig (c : UInt8) : Bool := decide (48 ≤ c.toNat ∧ c.toNat ≤ 57)

/-- The byte at a place. -/
def at_ (s : ByteArray) (k : Nat) : Option UInt8 := s.data.toList[k]?

/-- How many digits follow from a place on. -/
def nd (s : ByteArray) (k : Nat) : Nat := ((s.data.toList.drop k).takeWhile dig).length

structure Num where
  neg : Bool
  wh : ByteArray
  fr : ByteArray
  pn : Bool
  pw : ByteArray

/-- From the place behind a power's digit on. -/
def pwRest (s : ByteArray) (ng : Bool) (i k : Nat) : Option (Bool × ByteArray) :=
  if k + nd s k = s.size then some (ng, s.extract i (k + nd s k)) else none
/-- From the place of a power's first digit on. -/
def pwFirst (s : ByteArray) (ng : Bool) (i : Nat) : Option (Bool × ByteArray) :=
  match at_ s i with
  | some c => if dig c then pwRest s ng i (i + 1) else none
  | none => none
def power (s : ByteArray) (i : Nat) : Option (Bool × ByteArray) :=
  match at_ s i with
  | some c => if c = 45 then pwFirst s true (i + 1) else if c = 43 then pwFirst s false (i + 1) else pwFirst s false i
  | none => none

def measured (s : ByteArray) (k : Nat) (neg : Bool) (wh fr : ByteArray) : Option Num :=
  match at_ s k with
  | some c => if c = 101 ∨ c = 69 then (power s (k + 1)).map (fun p => ⟨neg, wh, fr, p.1, p.2⟩) else none
  | none => some ⟨neg, wh, fr, false, .empty⟩
def fraction (s : ByteArray) (i k : Nat) (neg : Bool) (wh : ByteArray) : Option Num :=
  measured s (k + nd s k) neg wh (s.extract i (k + nd s k))
def point (s : ByteArray) (k : Nat) (neg : Bool) (wh : ByteArray) : Option Num :=
  match at_ s k with
  | some c => if dig c then fraction s k (k + 1) neg wh else none
  | none => none
def counted (s : ByteArray) (i k : Nat) (neg : Bool) : Option Num :=
  if at_ s k = some 46 then point s (k + 1) neg (s.extract i k) else measured s k neg (s.extract i k) .empty
def whole (s : ByteArray) (i k : Nat) (neg : Bool) : Option Num := counted s i (k + nd s k) neg
def first (s : ByteArray) (k : Nat) (neg : Bool) : Option Num :=
  match at_ s k with
  | some c => if c = 48 then counted s k (k + 1) neg else if dig c then whole s k (k + 1) neg else none
  | none => none
def numeral (s : ByteArray) : Option Num := if at_ s 0 = some 45 then first s 1 true else first s 0 false

theorem at_some (s : ByteArray) (k : Nat) (h : k < s.size) : at_ s k = some s[k] := by
  unfold at_
  have h' : k < s.data.toList.length := by simpa using h
  rw [List.getElem?_eq_getElem h']
  rfl
theorem at_none (s : ByteArray) (k : Nat) (h : k = s.size) : at_ s k = none := by
  unfold at_
  apply List.getElem?_eq_none
  simp [h]

theorem nd_yes (s : ByteArray) (k : Nat) (h : k < s.size) (hd : dig s[k] = true) : nd s k = nd s (k + 1) + 1 := by
  unfold nd
  have h' : k < s.data.toList.length := by simpa using h
  rw [List.drop_eq_getElem_cons h', List.takeWhile_cons]
  have e : s.data.toList[k] = s[k] := rfl
  rw [e, hd]
  simp
theorem nd_no (s : ByteArray) (k : Nat) (h : k < s.size) (hd : dig s[k] = false) : nd s k = 0 := by
  unfold nd
  have h' : k < s.data.toList.length := by simpa using h
  rw [List.drop_eq_getElem_cons h', List.takeWhile_cons]
  have e : s.data.toList[k] = s[k] := rfl
  rw [e, hd]
  simp
theorem nd_end (s : ByteArray) (k : Nat) (h : k = s.size) : nd s k = 0 := by
  unfold nd
  rw [List.drop_eq_nil_of_le (by simp [h])]
  rfl
theorem nd_le (s : ByteArray) (k : Nat) (h : k ≤ s.size) : k + nd s k ≤ s.size := by
  unfold nd
  have h1 : ((s.data.toList.drop k).takeWhile dig).length ≤ (s.data.toList.drop k).length := (List.takeWhile_prefix (p := dig) (l := s.data.toList.drop k)).length_le
  have e : s.data.toList.length = s.size := by rw [Array.length_toList]; rfl
  rw [List.length_drop, e] at h1
  omega

/-! The set of the ten digits, and others, as 'indexByte' sees them. -/
theorem idx_digits (c : UInt8) : (0 ≤ Lib.indexByte [48, 49, 50, 51, 52, 53, 54, 55, 56, 57] c) ↔ dig c = true := by
  have h : ∀ n : Fin 256, (0 ≤ Lib.indexByte [48, 49, 50, 51, 52, 53, 54, 55, 56, 57] (UInt8.ofNat n.val)) ↔ dig (UInt8.ofNat n.val) = true := by decide +kernel
  have := h ⟨c.toNat, c.toNat_lt⟩
  simpa using this
theorem idx_one (a c : UInt8) : (0 ≤ Lib.indexByte [a] c) ↔ c = a := by
  by_cases h : a = c
  · subst h; simp [Lib.indexByte]
  · have h' : ¬ c = a := fun e => h e.symm
    simp [Lib.indexByte, h, h']
theorem idx_two (c : UInt8) : (0 ≤ Lib.indexByte [101, 69] c) ↔ (c = 101 ∨ c = 69) := by
  have h : ∀ n : Fin 256, (0 ≤ Lib.indexByte [101, 69] (UInt8.ofNat n.val)) ↔ (UInt8.ofNat n.val = 101 ∨ UInt8.ofNat n.val = 69) := by decide +kernel
  have := h ⟨c.toNat, c.toNat_lt⟩
  simpa using this

end Go.Proofs.YtmnikcnjdeldeaaDoor.nu

/- readPower's contract: whatever the text and the place behind the letter: what it answers is the plain function's. -/
namespace Go.Proofs.YtmnikcnjdeldeaaDoor.rd
open Go.RowKit

end Go.Proofs.YtmnikcnjdeldeaaDoor.rd

/- readNumeral's contract: whatever the text: what it answers is the plain function's. -/
namespace Go.Proofs.YtmnikcnjdeldeaaDoor.rd
open Go.RowKit

def x0 : nu.Num := ⟨false, .empty, .empty, false, .empty⟩

end Go.Proofs.YtmnikcnjdeldeaaDoor.rd

/- A numeral's exponent: the contract of the method 'exponent' where its power is digits. -/
namespace Go.Proofs.YtmnikcnjdeldeaaDoor.rd
open Go.RowKit

/-- One digit more of a power. -/
def pstep (e : Int) (c : UInt8) : Int := if e < 1099511627776 then e * 10 + ((c.toNat : Int) - 48) else e
/-- A power's size, held where it is far out. -/
def psize (l : List UInt8) : Int := l.foldl pstep 0
/-- The power of ten. -/
def expo (x : nu.Num) : Int := (if x.pn then - psize x.pw.data.toList else psize x.pw.data.toList) - x.fr.size

theorem pstep_bd (e : Int) (c : UInt8) (h0 : 0 ≤ e) (h1 : e ≤ 10995116277770) (hc : 48 ≤ c.toNat ∧ c.toNat ≤ 57) : 0 ≤ pstep e c ∧ pstep e c ≤ 10995116277770 := by
  unfold pstep; split <;> omega
theorem psize_snoc (l : List UInt8) (c : UInt8) : psize (l ++ [c]) = pstep (psize l) c := by
  unfold psize; rw [List.foldl_append]; rfl
theorem psize_bd (l : List UInt8) (h : ∀ c ∈ l, nu.dig c = true) : 0 ≤ psize l ∧ psize l ≤ 10995116277770 := by
  have key : ∀ (l : List UInt8) (e : Int), (∀ c ∈ l, nu.dig c = true) → 0 ≤ e → e ≤ 10995116277770 → 0 ≤ l.foldl pstep e ∧ l.foldl pstep e ≤ 10995116277770 := by
    intro l
    induction l with
    | nil => intro e _ h0 h1; exact ⟨h0, h1⟩
    | cons c r ih =>
      intro e hl h0 h1
      have hc : 48 ≤ c.toNat ∧ c.toNat ≤ 57 := by
        have := hl c (by simp)
        simpa [nu.dig] using this
      have hb := pstep_bd e c h0 h1 hc
      exact ih (pstep e c) (fun c' hc' => hl c' (by simp [hc'])) hb.1 hb.2
  exact key l 0 h (by omega) (by omega)
theorem take_snoc (s : ByteArray) (k : Nat) (h : k < s.size) : s.data.toList.take (k + 1) = s.data.toList.take k ++ [s[k]] := by
  rw [List.take_succ_eq_append_getElem (by simpa using h)]; rfl
theorem take_all (s : ByteArray) : s.data.toList.take s.size = s.data.toList := List.take_of_length_le (by simp)

theorem ret_int {k : IntKind} {a b : Int} (h : a = b) : Ending.returned (.int k a) = .returned (.int k b) := by rw [h]

end Go.Proofs.YtmnikcnjdeldeaaDoor.rd
