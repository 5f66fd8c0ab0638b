/- Several texts in one. -/
import Derived.Test.YthpnclhfooileaaGreatDoorShelf
import Derived.Test.YthpnclhfooileaaGreatDoorChecked
import Derived.WalkKit
import Derived.Deep.QuietTactic
import Derived.BigQuiet
import Derived.Outline
import Derived.WalkLawsBesides
import Derived.Lib.SmallJoins
import Derived.Lib.Bytealg
import Derived.Test.YthpnclhfooileaaGreatDoorLb
import Derived.WalkMore
import Derived.Deep.RegionWith
import Derived.Laws.IdiomStrings
import Derived.Laws.OwnMore
import Derived.Laws.ResultCell
import Derived.Deep.RegionHeld3
/- The contracts of the reader's two methods, 'ended' and 'takes': whatever the text, the place and the set of bytes; the reader lies in a block of its own. -/
namespace Go.Proofs.YthpnclhfooileaaGreatDoor.rd
open Go.RowKit

theorem bcell {W w1 : World} (hb : Below W.heap.size W w1) : (∀ b o, b < W.heap.size → w1.cell? ⟨b, o, none⟩ = W.cell? ⟨b, o, none⟩) ∧ (∀ b o, b < W.heap.size → w1.frozen? ⟨b, o, none⟩ = W.frozen? ⟨b, o, none⟩) :=
  ⟨fun b o h => hb.cell (p := ⟨b, o, none⟩) h, fun b o h => hb.frozen (p := ⟨b, o, none⟩) h⟩

end Go.Proofs.YthpnclhfooileaaGreatDoor.rd

/- What a numeral's text says, place by place, as a plain function: no program in it. -/
namespace Go.Proofs.YthpnclhfooileaaGreatDoor.nu

def dig (c : UInt8) : Bool := decide (48 ≤ c.toNat ∧ c.toNat ≤ 57)

/-- The byte at a place. -/
def at_ (s : ByteArray) (k : Nat) : Option UInt8 := s.data.toList[k]?

/-- How many digits follow from a place on. -/
def nd (s : ByteArray) (k : Nat) : Nat := ((s.data.toList.drop k).takeWhile dig).length

structure Num where
  neg : Bool
  wh : ByteArray
  fr : ByteArray
  pn : Bool
  pw : ByteArray

/-- From the place behind a power's digit on. -/
def pwRest (s : ByteArray) (ng : Bool) (i k : Nat) : Option (Bool × ByteArray) :=
  if k + nd s k = s.size then some (ng, s.extract i (k + nd s k)) else none
/-- From the place of a power's first digit on. -/
def pwFirst (s : ByteArray) (ng : Bool) (i : Nat) : Option (Bool × ByteArray) :=
  match at_ s i with
  | some c => if dig c then pwRest s ng i (i + 1) else none
  | none => none
def power (s : ByteArray) (i : Nat) : Option (Bool × ByteArray) :=
  match at_ s i with
  | some c => if c = 45 then pwFirst s true (i + 1) else if c = 43 then pwFirst s false (i + 1) else pwFirst s false i
  | none => none

def measured (s : ByteArray) (k : Nat) (neg : Bool) (wh fr : ByteArray) : Option Num :=
  match at_ s k with
  | some c => if c = 101 ∨ c = 69 then (power s (k + 1)).map (fun p => ⟨neg, wh, fr, p.1, p.2⟩) else none
  | none => some ⟨neg, wh, fr, false, .empty⟩
def fraction (s : ByteArray) (i k : Nat) (neg : Bool) (wh : ByteArray) : Option Num :=
  measured s (k + nd s k) neg wh (s.extract i (k + nd s k))
def point (s : ByteArray) (k : Nat) (neg : Bool) (wh : ByteArray) : Option Num :=
  match at_ s k with
  | some c => if dig c then fraction s k (k + 1) neg wh else none
  | none => none
def counted (s : ByteArray) (i k : Nat) (neg : Bool) : Option Num :=
  if at_ s k = some 46 then point s (k + 1) neg (s.extract i k) else measured s k neg (s.extract i k) .empty
def whole (s : ByteArray) (i k : Nat) (neg : Bool) : Option Num := counted s i (k + nd s k) neg
def first (s : ByteArray) (k : Nat) (neg : Bool) : Option Num :=
  match at_ s k with
  | some c => if c = 48 then counted s k (k + 1) neg else if dig c then whole s k (k + 1) neg else none
  | none => none
def numeral (s : ByteArray) : Option Num := if at_ s 0 = some 45 then first s 1 true else first s 0 false

theorem at_some (s : ByteArray) (k : Nat) (h : k < s.size) : at_ s k = some s[k] := by
  unfold at_
  have h' : k < s.data.toList.length := by simpa using h
  rw [List.getElem?_eq_getElem h']
  rfl
theorem at_none (s : ByteArray) (k : Nat) (h : k = s.size) : at_ s k = none := by
  unfold at_
  apply List.getElem?_eq_none
  simp [h]

theorem nd_yes (s : ByteArray) (k : Nat) (h : k < s.size) (hd : dig s[k] = true) : nd s k = nd s (k + 1) + 1 := by
  unfold nd
  have h' : k < s.data.toList.length := by simpa using h
  rw [List.drop_eq_getElem_cons h', List.takeWhile_cons]
  have e : s.data.toList[k] = s[k] := rfl
  rw [e, hd]
  simp
theorem nd_no (s : ByteArray) (k : Nat) (h : k < s.size) (hd : dig s[k] = false) : nd s k = 0 := by
  unfold nd
  have h' : k < s.data.toList.length := by simpa using h
  rw [List.drop_eq_getElem_cons h', List.takeWhile_cons]
  have e : s.data.toList[k] = s[k] := rfl
  rw [e, hd]
  simp
theorem nd_end (s : ByteArray) (k : Nat) (h : k = s.size) : nd s k = 0 := by
  unfold nd
  rw [List.drop_eq_nil_of_le (by simp [h])]
  rfl
theorem nd_le (s : ByteArray) (k : Nat) (h : k ≤ s.size) : k + nd s k ≤ s.size := by
  unfold nd
  have h1 : ((s.data.toList.drop k).takeWhile dig).length ≤ (s.data.toList.drop k).length := (List.takeWhile_prefix (p := dig) (l := s.data.toList.drop k)).length_le
  have e : s.data.toList.length = s.size := by rw [Array.length_toList]; rfl
  rw [List.length_drop, e] at h1
  omega

/-! The set of the ten digits, and others, as 'indexByte' sees them. -/
theorem idx_digits (c : UInt8) : (0 ≤ Lib.indexByte [48, 49, 50, 51, 52, 53, 54, 55, 56, 57] c) ↔ dig c = true := by
  have h : ∀ n : Fin 256, (0 ≤ Lib.indexByte [48, 49, 50, 51, 52, 53, 54, 55, 56, 57] (UInt8.ofNat n.val)) ↔ dig (UInt8.ofNat n.val) = true := by decide +kernel
  have := h ⟨c.toNat, c.toNat_lt⟩
  simpa using this
theorem idx_one (a c : UInt8) : (0 ≤ Lib.indexByte [a] c) ↔ c = a := by
  by_cases h : a = c
  · subst h; simp [Lib.indexByte]
  · have h' : ¬ c = a := fun e => h e.symm
    simp [Lib.indexByte, h, h']
theorem idx_two (c : UInt8) : (0 ≤ Lib.indexByte [101, 69] c) ↔ (c = 101 ∨ c = 69) := by
  have h : ∀ n : Fin 256, (0 ≤ Lib.indexByte [101, 69] (UInt8.ofNat n.val)) ↔ (UInt8.ofNat n.val = 101 ∨ UInt8.ofNat n.val = 69) := by decide +kernel
  have := h ⟨c.toNat, c.toNat_lt⟩
  simpa using this

end Go.Proofs.YthpnclhfooileaaGreatDoor.nu

/- readPower's contract: whatever the text and the place behind the letter: what it answers is the plain function's. -/
namespace Go.Proofs.YthpnclhfooileaaGreatDoor.rd
open Go.RowKit

end Go.Proofs.YthpnclhfooileaaGreatDoor.rd

/- readNumeral's contract: whatever the text: what it answers is the plain function's. -/
namespace Go.Proofs.YthpnclhfooileaaGreatDoor.rd
open Go.RowKit

def x0 : nu.Num := ⟨false, .empty, .empty, false, .empty⟩

end Go.Proofs.YthpnclhfooileaaGreatDoor.rd

/- A numeral's exponent: the contract of the method 'exponent' where its power is digits. -/
namespace Go.Proofs.YthpnclhfooileaaGreatDoor.rd
open Go.RowKit

/-- One digit more of a power. -/
def pstep (e : Int) (c : UInt8) : Int := if e < 1099511627776 then e * 10 + ((c.toNat : Int) - 48) else e
/-- A power's size, held where it is far out. -/
def psize (l : List UInt8) : Int := l.foldl pstep 0
/-- The power of ten. -/
def expo (x : nu.Num) : Int := (if x.pn then - psize x.pw.data.toList else psize x.pw.data.toList) - x.fr.size

theorem pstep_bd (e : Int) (c : UInt8) (h0 : 0 ≤ e) (h1 : e ≤ 10995116277770) (hc : 48 ≤ c.toNat ∧ c.toNat ≤ 57) : 0 ≤ pstep e c ∧ pstep e c ≤ 10995116277770 := by
  unfold pstep; split <;> omega
theorem psize_snoc (l : List UInt8) (c : UInt8) : psize (l ++ [c]) = pstep (psize l) c := by
  unfold psize; rw [List.foldl_append]; rfl
theorem psize_bd (l : List UInt8) (h : ∀ c ∈ l, nu.dig c = true) : 0 ≤ psize l ∧ psize l ≤ 10995116277770 := by
  have key : ∀ (l : List UInt8) (e : Int), (∀ c ∈ l, nu.dig c = true) → 0 ≤ e → e ≤ 10995116277770 → 0 ≤ l.foldl pstep e ∧ l.foldl pstep e ≤ 10995116277770 := by
    intro l
    induction l with
    | nil => intro e _ h0 h1; exact ⟨h0, h1⟩
    | cons c r ih =>
      intro e hl h0 h1
      have hc : 48 ≤ c.toNat ∧ c.toNat ≤ 57 := by
        have := hl c (by simp)
        simpa [nu.dig] using this
      have hb := pstep_bd e c h0 h1 hc
      exact ih (pstep e c) (fun c' hc' => hl c' (by simp [hc'])) hb.1 hb.2
  exact key l 0 h (by omega) (by omega)
theorem take_snoc (s : ByteArray) (k : Nat) (h : k < s.size) : s.data.toList.take (k + 1) = s.data.toList.take k ++ [s[k]] := by
  rw [List.take_succ_eq_append_getElem (by simpa using h)]; rfl
theorem take_all (s : ByteArray) : s.data.toList.take s.size = s.data.toList := List.take_of_length_le (by simp)

theorem ret_int {k : IntKind} {a b : Int} (h : a = b) : Ending.returned (.int k a) = .returned (.int k b) := by rw [h]

end Go.Proofs.YthpnclhfooileaaGreatDoor.rd

/- onlyDigits' contract: the bytes that are digits, in their order. -/
namespace Go.Proofs.YthpnclhfooileaaGreatDoor.rd
open Go.RowKit

def vb (c : UInt8) : Value := .int .u8 (c.toNat : Int)
/-- The digits among the first k bytes. -/
def dgs (s : ByteArray) (k : Nat) : List UInt8 := (s.data.toList.take k).filter nu.dig
/-- The digits of a text. -/
def digs (s : ByteArray) : ByteArray := ⟨(s.data.toList.filter nu.dig).toArray⟩

theorem dgs_le (s : ByteArray) (k : Nat) : (dgs s k).length ≤ k := by
  unfold dgs
  exact Nat.le_trans (List.length_filter_le _ _) (List.length_take_le _ _)
theorem dgs_yes (s : ByteArray) (k : Nat) (h : k < s.size) (hd : nu.dig s[k] = true) : dgs s (k + 1) = dgs s k ++ [s[k]] := by
  unfold dgs; rw [take_snoc s k h, List.filter_append]; simp [hd]
theorem dgs_no (s : ByteArray) (k : Nat) (h : k < s.size) (hd : nu.dig s[k] = false) : dgs s (k + 1) = dgs s k := by
  unfold dgs; rw [take_snoc s k h, List.filter_append]; simp [hd]
theorem dgs_all (s : ByteArray) : dgs s s.size = s.data.toList.filter nu.dig := by unfold dgs; rw [take_all]

theorem info5 : (Tryz.prog.info? 5).map (fun i => (i.zero, i.size, i.bytes)) = some (some (.int .u8 0), 1, 1) := by kernel_rfl

theorem own_back {w : World} {B n cap : Nat} {l : List UInt8} (h : w.ownsRow B 5 1 (.slice (some ⟨B, 0, none⟩) n cap) n (l.map vb)) (hn : l.length = n) :
    (convert 65 9 (.slice (some ⟨B, 0, none⟩) n cap)).run Tryz.prog w = .ok (.string ⟨l.toArray⟩) w := by
  subst hn
  refine run_convert_bytes_back w 65 9 5 ⟨B, 0, none⟩ cap l Tryz.underlying65 Tryz.underlying5 Tryz.underlying9 (fun j hj => ?_)
  have := h.cellAt j (by omega)
  have e : (⟨B, 0, none⟩ : Addr).add j = ⟨B, j, none⟩ := by unfold Addr.add; split <;> simp_all
  rw [e, this]
  simp [hj, vb]

set_option maxRecDepth 100000 in
set_option maxHeartbeats 800000 in
theorem onlyDigits_any (s : ByteArray) (w : World) (hs : s.size ≤ 140737488351232) :
    Calls Tryz.prog 79 #[.string s] w fun e w' => e = .returned (.string (digs s)) ∧ Below w.heap.size w w' := by
  obtain ⟨i0, hi, hz0, hz1, hz2⟩ := info_parts info5
  go_enter Tryz.func79, Tryz.ntmps79
  go_wp2_with (at_make; refine wpList_make_own _ rfl _ _ 65 rfl w.heap.size 5 i0 (.int .u8 0) 1 Tryz.underlying65 hi hz0 hz1 _ _ _ s.size rfl rfl (by omega) ?b2 ?b3 (Nat.le_refl _) ?_)
  case b2 => rw [hz2]; omega
  case b3 => unfold maxLen; omega
  intro w0 hown0 hgrow0
  go_wp2
  go_loopw [3, 10] (fun v i wr => ∃ k : Nat, k ≤ s.size ∧ i = .int .i64 k ∧ v = .slice (some ⟨w.heap.size, 0, none⟩) (dgs s k).length s.size ∧
      wr.ownsRow w.heap.size 5 1 (.slice (some ⟨w.heap.size, 0, none⟩) (dgs s k).length s.size) (dgs s k).length ((dgs s k).map vb) ∧ Below w.heap.size w wr)
    (fun _ i _ => s.size - (intOf i).toNat)
  case atStart => exact ⟨0, Nat.zero_le _, rfl, rfl, hown0, (Below.refl _ _).grown hgrow0 (Nat.le_refl _) (fun k h => by cases h)⟩
  case round =>
    obtain ⟨k, hk, rfl, rfl, hown, hnx⟩ := hrel
    have hle := dgs_le s k
    by_cases hlt : k < s.size
    · by_cases hd : nu.dig s[k] = true
      · have hd' : 48 ≤ s[k].toNat ∧ s[k].toNat ≤ 57 := by simpa [nu.dig] using hd
        obtain ⟨d1, d2⟩ := hd'
        have d1' : (48 : Int) ≤ (s[k].toNat : Int) := by omega
        have d2' : (s[k].toNat : Int) ≤ 57 := by omega
        have HS := hide (dgs_yes s k hlt hd)
        clear hd d1 d2
        go_wp2_with (at_builtin; refine wpList_append_fits _ rfl _ _ 65 rfl w.heap.size 5 i0 1 Tryz.underlying65 hi hz1 w.heap.size (dgs s k).length s.size _ rfl (hown.alloc _) ⟨wr.heap.size, 0, none⟩ 1 1 [vb s[k]] rfl rfl ?c1 ?c2 (by omega) ?_)
        case c1 =>
          intro j u hj
          match j, hj with
          | 0, hj => simp at hj; subst hj; simp [Addr.add, vb]
        case c2 => intro u hu; simp at hu; subst hu; rfl
        intro w1 hown1 hgrow1
        go_wp2
        go_roundw
        case rel =>
          have e : (dgs s (k + 1)).length = (dgs s k).length + 1 := by rw [HS.out]; simp
          have e2 : (dgs s (k + 1)).map vb = (dgs s k).map vb ++ [vb s[k]] := by rw [HS.out]; simp
          refine ⟨k + 1, by omega, by go_num, by rw [e], by rw [e, e2]; exact hown1, (hnx.alloc hnx.size _).grown hgrow1 (by simp; have := hnx.size; omega) (fun k hk => by cases hk; exact Nat.le_refl _)⟩
        case measure => simp [intOf]; omega
      · have hd0 : nu.dig s[k] = false := by simpa using hd
        have HS := hide (dgs_no s k hlt hd0)
        have hd' : ¬ (48 ≤ s[k].toNat ∧ s[k].toNat ≤ 57) := by simpa [nu.dig] using hd
        clear hd hd0
        by_cases d1 : (48 : Int) ≤ (s[k].toNat : Int)
        · have d2 : ¬ (s[k].toNat : Int) ≤ 57 := by omega
          clear hd'
          go_wp2
          go_roundw
          case rel => exact ⟨k + 1, by omega, by go_num, by rw [HS.out], by rw [HS.out]; exact hown, hnx⟩
          case measure => simp [intOf]; omega
        · clear hd'
          go_wp2
          go_roundw
          case rel => exact ⟨k + 1, by omega, by go_num, by rw [HS.out], by rw [HS.out]; exact hown, hnx⟩
          case measure => simp [intOf]; omega
    · obtain rfl : k = s.size := by omega
      have hcv := own_back hown rfl
      go_wp2
      go_ret
      refine ⟨?_, hnx⟩
      unfold digs
      rw [← dgs_all]
      rfl

end Go.Proofs.YthpnclhfooileaaGreatDoor.rd

/- oneForm's contract. -/
namespace Go.Proofs.YthpnclhfooileaaGreatDoor.rd
open Go.RowKit

/-- A decimal number as it is told. -/
structure Dn where
  neg : Bool
  dg : ByteArray
  ex : Int
def zed : Dn := ⟨false, .empty, 0⟩
def dv (d : Dn) : Value := .agg #[.bool d.neg, .string d.dg, .int .i64 d.ex]

def trimL (s : ByteArray) : ByteArray := ⟨(Lib.trimLeftB s.data.toList 48).toArray⟩
def trimR (s : ByteArray) : ByteArray := ⟨(Lib.trimRightB s.data.toList 48).toArray⟩

/-- The one form of digits times ten to the ex; false: beyond the bounds. -/
def oneForm (neg : Bool) (s : ByteArray) (ex : Int) : Dn × Bool :=
  if (trimR (trimL s)).size = 0 then (zed, true)
  else if 9999 < ex then (zed, false)
  else if ex + ((trimL s).size - (trimR (trimL s)).size) < -9999 ∨ 9999 < ex + ((trimL s).size - (trimR (trimL s)).size) then (zed, false)
  else (⟨neg, trimR (trimL s), ex + ((trimL s).size - (trimR (trimL s)).size)⟩, true)

theorem trimL_le (s : ByteArray) : (trimL s).size ≤ s.size := by
  have h : (Lib.trimLeftB s.data.toList 48).length ≤ s.data.toList.length := (List.dropWhile_suffix _).length_le
  have e1 : (trimL s).size = (Lib.trimLeftB s.data.toList 48).length := by unfold trimL; exact List.size_toArray
  have e2 : s.data.toList.length = s.size := by rw [Array.length_toList]; rfl
  omega
theorem trimR_le (s : ByteArray) : (trimR s).size ≤ s.size := by
  have h : (Lib.trimRightB s.data.toList 48).length ≤ s.data.toList.length := by
    unfold Lib.trimRightB
    rw [List.length_reverse]
    have := (List.dropWhile_suffix (l := s.data.toList.reverse) (fun x => x == 48)).length_le
    rw [List.length_reverse] at this
    exact this
  have e1 : (trimR s).size = (Lib.trimRightB s.data.toList 48).length := by unfold trimR; exact List.size_toArray
  have e2 : s.data.toList.length = s.size := by rw [Array.length_toList]; rfl
  omega

theorem clone_any (s : ByteArray) (w : World) (hlim : s.size ≤ 281474976710656) :
    Calls Tryz.prog 104 #[.string s] w fun e w' => e = .returned (.string s) ∧ Below w.heap.size w w' := by
  go_enter Tryz.func104, Tryz.ntmps104
  go_wp2_with (go_at_call 118; refine (Tryz.stringslite_Clone s _ hlim).mono ?_; rintro e w' ⟨rfl, hb⟩)
  go_ret
  exact ⟨rfl, hb⟩

/-- A number lies in block m. -/
def DLies (w : World) (m : Nat) (d : Dn) : Prop := w.heap[m]? = some (.cells #[.bool d.neg, .string d.dg, .int .i64 d.ex] 30 (0, 0))
theorem DLies.cells {w : World} {m : Nat} {d : Dn} (h : DLies w m d) : w.cell? ⟨m, 0, none⟩ = some (.bool d.neg) ∧ w.cell? ⟨m, 1, none⟩ = some (.string d.dg) ∧ w.cell? ⟨m, 2, none⟩ = some (.int .i64 d.ex) :=
  ⟨blk_cell h 0, blk_cell h 1, blk_cell h 2⟩
theorem DLies.frees {w : World} {m : Nat} {d : Dn} (h : DLies w m d) : w.frozen? ⟨m, 0, none⟩ = false ∧ w.frozen? ⟨m, 1, none⟩ = false ∧ w.frozen? ⟨m, 2, none⟩ = false :=
  ⟨blk_free h 0, blk_free h 1, blk_free h 2⟩

theorem DLies.set {w : World} {m : Nat} {d : Dn} (h : DLies w m d) (n : Bool) (g : ByteArray) (x : Int) :
    DLies (((w.setCell ⟨m, 0, none⟩ (.bool n)).setCell ⟨m, 1, none⟩ (.string g)).setCell ⟨m, 2, none⟩ (.int .i64 x)) m ⟨n, g, x⟩ :=
  blk_set (blk_set (blk_set h 0 _) 1 _) 2 _
theorem below3 {B : Nat} {a w : World} (h : Below B a w) {m : Nat} (hB : B ≤ m) (u v x : Value) : Below B a (((w.setCell ⟨m, 0, none⟩ u).setCell ⟨m, 1, none⟩ v).setCell ⟨m, 2, none⟩ x) :=
  ((h.setCell hB _).setCell hB _).setCell hB _
theorem DLies.below {B : Nat} {w w' : World} {m : Nat} {d : Dn} (h : DLies w m d) (hb : Below B w w') (hm : m < B) : DLies w' m d := (hb.block m hm).trans h

theorem DLies.alloc {w : World} {m : Nat} {d : Dn} (h : DLies w m d) (o : Obj) : DLies (w.alloc o) m d := (Below.heap_alloc w o m (blk_lt h)).trans h
theorem DLies.drew {w : World} {m : Nat} {d : Dn} (h : DLies w m d) : DLies w.drew m d := h
theorem DLies.drewN {w : World} {m : Nat} {d : Dn} (h : DLies w m d) (n : Nat) : DLies (w.drewN n) m d := h
theorem below3a {B : Nat} {a w : World} (h : Below B a w) {m : Nat} (hB : B ≤ m) (hs : B ≤ w.heap.size) (u v x : Value) (o : Obj) : Below B a ((((w.setCell ⟨m, 0, none⟩ u).setCell ⟨m, 1, none⟩ v).setCell ⟨m, 2, none⟩ x).alloc o) :=
  (below3 h hB u v x).alloc (by simpa [World.setCell] using hs) o

theorem cell_lt {w : World} {b o : Nat} {v : Value} (h : w.cell? ⟨b, o, none⟩ = some v) : b < w.heap.size := by
  rcases Nat.lt_or_ge b w.heap.size with h' | h'
  · exact h'
  · simp [World.cell?, Array.getElem?_eq_none h'] at h

/-- A cell that is there ahead of a call that turns nothing old is there behind it. -/
theorem keepC {W w1 : World} (hb : Below W.heap.size W w1) {b o : Nat} {v : Value} (h : W.cell? ⟨b, o, none⟩ = some v) : w1.cell? ⟨b, o, none⟩ = some v := by
  rw [hb.cell (p := ⟨b, o, none⟩) (cell_lt h)]; exact h
theorem keepF {W w1 : World} (hb : Below W.heap.size W w1) {b o o' : Nat} {v : Value} (h : W.cell? ⟨b, o, none⟩ = some v) (hf : W.frozen? ⟨b, o', none⟩ = false) : w1.frozen? ⟨b, o', none⟩ = false := by
  rw [hb.frozen (p := ⟨b, o', none⟩) (cell_lt h)]; exact hf

theorem empty_iff (t : ByteArray) : t.toList.isEmpty = decide (t.size = 0) := by
  rw [ByteArray.toList_eq]
  have e : t.data.toList.length = t.size := by rw [Array.length_toList]; rfl
  cases hx : t.data.toList with
  | nil => rw [hx] at e; simp at e; simp [← e]
  | cons a l => rw [hx] at e; simp at e; simp [← e]

theorem trimL_any (s : ByteArray) (w : World) : Calls Tryz.prog 102 #[.string s, .string ⟨#[48]⟩] w fun e w' => e = .returned (.string (trimL s)) ∧ w' = w := Tryz.strings_TrimLeft_one s 48 (by decide) w
theorem trimR_any (s : ByteArray) (w : World) (hs : s.size ≤ 9223372036854775807) : Calls Tryz.prog 103 #[.string s, .string ⟨#[48]⟩] w fun e w' => e = .returned (.string (trimR s)) ∧ w' = w := Tryz.strings_TrimRight_one s 48 (by decide) w hs

theorem ret_oneForm {m : Nat} (w : World) (d : Dn) (ok : Bool) (h : DLies w m d) (tmps : Array Value) (h2 : tmps.getD 6 undef = .pointer (some ⟨m, 0, none⟩)) (h3 : tmps.getD 7 undef = .bool ok) :
    (results Tryz.f78 tmps).run Tryz.prog w = .ok (.tuple #[dv d, .bool ok]) w := by
  obtain ⟨q0, q1, q2⟩ := h.cells
  rw [results_cell_tmp Tryz.results78, h2, h3]
  simp [go_sem, q0, q1, q2, dv]

theorem dlies_new (w : World) (d : Dn) : DLies (w.alloc (.cells #[.bool d.neg, .string d.dg, .int .i64 d.ex] 30)) w.heap.size d := by
  show (w.heap.push _)[w.heap.size]? = _
  rw [Array.getElem?_push_size]

set_option maxRecDepth 100000 in
set_option maxHeartbeats 800000 in
theorem oneForm_any (neg : Bool) (s : ByteArray) (ex : Int) (w : World) (hs : s.size ≤ 140737488351232) (h0 : -9223372036854775808 ≤ ex) (h1 : ex ≤ 9223372036854775807) :
    Calls Tryz.prog 78 #[.bool neg, .string s, .int .i64 ex] w fun e w' => e = .returned (.tuple #[dv (oneForm neg s ex).1, .bool (oneForm neg s ex).2]) ∧ Below w.heap.size w w' := by
  have l1 := trimL_le s
  have l2 := trimR_le (trimL s)
  have c1 := trimL_any s
  have c2 := trimR_any (trimL s)
  have HO : Hid (oneForm neg s ex = oneForm neg s ex) := rfl
  have HO : Hid (oneForm neg s ex = if (trimR (trimL s)).size = 0 then (zed, true)
      else if 9999 < ex then (zed, false)
      else if ex + ((trimL s).size - (trimR (trimL s)).size) < -9999 ∨ 9999 < ex + ((trimL s).size - (trimR (trimL s)).size) then (zed, false)
      else (⟨neg, trimR (trimL s), ex + ((trimL s).size - (trimR (trimL s)).size)⟩, true)) := rfl
  generalize oneForm neg s ex = r at HO ⊢
  generalize trimR (trimL s) = t at *
  generalize trimL s = d at *
  have C1 := hide c1
  have C2 := hide c2
  clear c1 c2
  by_cases hz : t.size = 0
  · have hr : r = (zed, true) := by rw [HO.out, if_pos hz]
    subst hr
    clear HO
    have hz' : t.toList.isEmpty = true := by rw [empty_iff]; simpa using hz
    clear hz
    go_enter Tryz.func78, Tryz.ntmps78
    go_wp2_with fail
    refine (unhide C1 _).mono ?_
    rintro e w1 ⟨rfl, rfl⟩
    go_wp2_with fail
    refine (unhide C2 _ (by omega)).mono ?_
    rintro e w1 ⟨rfl, rfl⟩
    go_wp2
    exact bodyPost_ret (ret_oneForm _ zed true (dlies_new w zed) _ rfl rfl) rfl ⟨rfl, (Below.refl _ _).alloc (Nat.le_refl _) _⟩
  · have hz' : t.toList.isEmpty = false := by rw [empty_iff]; simpa using hz
    by_cases he : 9999 < ex
    · have hr : r = (zed, false) := by rw [HO.out, if_neg hz, if_pos he]
      subst hr
      clear HO hz
      go_enter Tryz.func78, Tryz.ntmps78
      go_wp2_with fail
      refine (unhide C1 _).mono ?_
      rintro e w1 ⟨rfl, rfl⟩
      go_wp2_with fail
      refine (unhide C2 _ (by omega)).mono ?_
      rintro e w1 ⟨rfl, rfl⟩
      go_wp2
      exact bodyPost_ret (ret_oneForm _ zed false (dlies_new w zed) _ rfl rfl) rfl ⟨rfl, (Below.refl _ _).alloc (Nat.le_refl _) _⟩
    · have he' : ex ≤ 9999 := by omega
      by_cases hb : ex + ((d.size : Int) - t.size) < -9999
      · have hr : r = (zed, false) := by rw [HO.out, if_neg hz, if_neg he, if_pos (.inl hb)]
        subst hr
        clear HO hz he
        go_enter Tryz.func78, Tryz.ntmps78
        go_wp2_with fail
        refine (unhide C1 _).mono ?_
        rintro e w1 ⟨rfl, rfl⟩
        go_wp2_with fail
        refine (unhide C2 _ (by omega)).mono ?_
        rintro e w1 ⟨rfl, rfl⟩
        go_wp2
        exact bodyPost_ret (ret_oneForm _ zed false (dlies_new w zed) _ rfl rfl) rfl ⟨rfl, (Below.refl _ _).alloc (Nat.le_refl _) _⟩
      · have hb' : -9999 ≤ ex + ((d.size : Int) - t.size) := by omega
        by_cases ht : 9999 < ex + ((d.size : Int) - t.size)
        · have hr : r = (zed, false) := by rw [HO.out, if_neg hz, if_neg he, if_pos (.inr ht)]
          subst hr
          clear HO hz he hb
          go_enter Tryz.func78, Tryz.ntmps78
          go_wp2_with fail
          refine (unhide C1 _).mono ?_
          rintro e w1 ⟨rfl, rfl⟩
          go_wp2_with fail
          refine (unhide C2 _ (by omega)).mono ?_
          rintro e w1 ⟨rfl, rfl⟩
          go_wp2
          exact bodyPost_ret (ret_oneForm _ zed false (dlies_new w zed) _ rfl rfl) rfl ⟨rfl, (Below.refl _ _).alloc (Nat.le_refl _) _⟩
        · have hr : r = (⟨neg, t, ex + ((d.size : Int) - t.size)⟩, true) := by rw [HO.out, if_neg hz, if_neg he, if_neg (by omega)]
          subst hr
          have ht' : ex + ((d.size : Int) - t.size) ≤ 9999 := by omega
          clear HO hz he hb ht
          go_enter Tryz.func78, Tryz.ntmps78
          go_wp2_with fail
          refine (unhide C1 _).mono ?_
          rintro e w1 ⟨rfl, rfl⟩
          go_wp2_with fail
          refine (unhide C2 _ (by omega)).mono ?_
          rintro e w1 ⟨rfl, rfl⟩
          go_wp2_with fail
          refine (clone_any t _ (by omega)).mono ?_
          rintro e w1 ⟨rfl, hb1⟩
          have hz1 := hb1.size
          have l3 : DLies w1 w.heap.size zed := (hb1.block _ (by simp)).trans (dlies_new w zed)
          obtain ⟨q0, q1, q2⟩ := l3.cells
          obtain ⟨f0, f1, f2⟩ := l3.frees
          go_wp2
          exact bodyPost_ret (ret_oneForm _ _ true (l3.set neg t _) _ rfl rfl) rfl ⟨rfl, below3 (((Below.refl _ _).alloc (Nat.le_refl _) _).trans (hb1.mono (by simp))) (Nat.le_refl _) _ _ _⟩
end Go.Proofs.YthpnclhfooileaaGreatDoor.rd

/- inBounds' and Norm's contracts. -/
namespace Go.Proofs.YthpnclhfooileaaGreatDoor.rd
open Go.RowKit

/-- What inBounds answers: the number and no error, or nought and the error that the variable holds. -/
def bounded (neg : Bool) (s : ByteArray) (ex : Int) (eX : Value) : Value × Value :=
  if (oneForm neg s ex).2 then (dv (oneForm neg s ex).1, .nilIface) else (dv zed, eX)

/-- The number in its one form. -/
def norm (d : Dn) : Dn := (oneForm d.neg (digs d.dg) d.ex).1

theorem digs_le (s : ByteArray) : (digs s).size ≤ s.size := by
  have h : (s.data.toList.filter nu.dig).length ≤ s.data.toList.length := List.length_filter_le _ _
  have e1 : (digs s).size = (s.data.toList.filter nu.dig).length := by unfold digs; exact List.size_toArray
  have e2 : s.data.toList.length = s.size := by rw [Array.length_toList]; rfl
  omega

/-- Six cells and three marks that lie below a call stay as they are. -/
theorem keepS {b c : Nat} {v0 v1 v2 u0 u1 u2 : Value} {W w1 : World} (hb : Below W.heap.size W w1)
    (h : W.cell? ⟨b, 0, none⟩ = some v0 ∧ W.cell? ⟨b, 1, none⟩ = some v1 ∧ W.cell? ⟨b, 2, none⟩ = some v2 ∧ W.cell? ⟨c, 0, none⟩ = some u0 ∧ W.cell? ⟨c, 1, none⟩ = some u1 ∧ W.cell? ⟨c, 2, none⟩ = some u2 ∧
      W.frozen? ⟨c, 0, none⟩ = false ∧ W.frozen? ⟨c, 1, none⟩ = false ∧ W.frozen? ⟨c, 2, none⟩ = false ∧ b < W.heap.size ∧ c < W.heap.size) :
    w1.cell? ⟨b, 0, none⟩ = some v0 ∧ w1.cell? ⟨b, 1, none⟩ = some v1 ∧ w1.cell? ⟨b, 2, none⟩ = some v2 ∧ w1.cell? ⟨c, 0, none⟩ = some u0 ∧ w1.cell? ⟨c, 1, none⟩ = some u1 ∧ w1.cell? ⟨c, 2, none⟩ = some u2 ∧
      w1.frozen? ⟨c, 0, none⟩ = false ∧ w1.frozen? ⟨c, 1, none⟩ = false ∧ w1.frozen? ⟨c, 2, none⟩ = false ∧ b < w1.heap.size ∧ c < w1.heap.size := by
  obtain ⟨h0, h1, h2, g0, g1, g2, f0, f1, f2, lb, lc⟩ := h
  have hs := hb.size
  have ec : ∀ m o, m < W.heap.size → w1.cell? ⟨m, o, none⟩ = W.cell? ⟨m, o, none⟩ := fun m o hm => hb.cell (p := ⟨m, o, none⟩) hm
  have ef : ∀ m o, m < W.heap.size → w1.frozen? ⟨m, o, none⟩ = W.frozen? ⟨m, o, none⟩ := fun m o hm => hb.frozen (p := ⟨m, o, none⟩) hm
  rw [ec b 0 lb, ec b 1 lb, ec b 2 lb, ec c 0 lc, ec c 1 lc, ec c 2 lc, ef c 0 lc, ef c 1 lc, ef c 2 lc]
  exact ⟨h0, h1, h2, g0, g1, g2, f0, f1, f2, by omega, by omega⟩

theorem ret_norm {m : Nat} (w : World) (d : Dn) (h0 : w.cell? ⟨m, 0, none⟩ = some (.bool d.neg)) (h1 : w.cell? ⟨m, 1, none⟩ = some (.string d.dg)) (h2 : w.cell? ⟨m, 2, none⟩ = some (.int .i64 d.ex)) (tmps : Array Value) (ht : tmps[2]?.getD undef = .pointer (some ⟨m, 0, none⟩)) :
    (results Tryz.f56 tmps).run Tryz.prog w = .ok (dv d) w := by
  simp [results, Tryz.results56, ht, go_sem, h0, h1, h2, dv]

set_option maxRecDepth 100000 in
set_option maxHeartbeats 800000 in
theorem norm_any (d : Dn) (w : World) (hs : d.dg.size ≤ 140737488351232) (h0 : -9223372036854775808 ≤ d.ex) (h1 : d.ex ≤ 9223372036854775807) :
    Calls Tryz.prog 56 #[dv d] w fun e w' => e = .returned (dv (norm d)) ∧ Below w.heap.size w w' := by
  obtain ⟨n, g, x⟩ := d
  simp only at hs h0 h1
  have hl := digs_le g
  have c2 := fun w => oneForm_any n (digs g) x w (by omega) h0 h1
  have HB : Hid (norm ⟨n, g, x⟩ = (oneForm n (digs g) x).1) := rfl
  generalize norm ⟨n, g, x⟩ = r at HB ⊢
  have c1 := fun w => onlyDigits_any g w hs
  generalize digs g = dg at *
  generalize oneForm n dg x = o at *
  obtain ⟨r', ok⟩ := o
  obtain rfl : r = r' := HB
  obtain ⟨rn, rg, rx⟩ := r
  simp only [dv] at c2 ⊢
  have C1 := hide c1
  have C2 := hide c2
  clear c1 c2
  have n3 : w.heap.size + 1 + 1 ≠ w.heap.size := by omega
  have n4 : w.heap.size ≠ w.heap.size + 1 + 1 := by omega
  have n5 : w.heap.size + 1 + 1 ≠ w.heap.size + 1 := by omega
  have n6 : w.heap.size + 1 ≠ w.heap.size + 1 + 1 := by omega
  go_enter Tryz.func56, Tryz.ntmps56
  go_wp2_with fail
  go_region_held3 (fun w' => w'.cell? ⟨w.heap.size, 0, none⟩ = some (.bool n) ∧ w'.cell? ⟨w.heap.size, 1, none⟩ = some (.string g) ∧ w'.cell? ⟨w.heap.size, 2, none⟩ = some (.int .i64 x) ∧ w'.cell? ⟨w.heap.size + 1, 0, none⟩ = some (.bool false) ∧ w'.cell? ⟨w.heap.size + 1, 1, none⟩ = some (.string ⟨#[]⟩) ∧ w'.cell? ⟨w.heap.size + 1, 2, none⟩ = some (.int .i64 0) ∧ w'.frozen? ⟨w.heap.size + 1, 0, none⟩ = false ∧ w'.frozen? ⟨w.heap.size + 1, 1, none⟩ = false ∧ w'.frozen? ⟨w.heap.size + 1, 2, none⟩ = false ∧ w.heap.size < w'.heap.size ∧ w.heap.size + 1 < w'.heap.size) (((try dsimp only); (repeat' apply And.intro); all_goals first | (go_keep; done) | (simp [*, World.frozen?_alloc_past]; done) | (simp; omega) | (simp [World.setCell]; omega))) (first
    | (go_at_call 79; refine (unhide C1 _).mono ?_; rintro e w1 ⟨rfl, hb1⟩; obtain ⟨k0, k1, k2, k3, k4, k5, k6, k7, k8, k9, k10⟩ := keepS (v0 := .bool n) (v1 := .string g) (v2 := .int .i64 x) (u0 := .bool false) (u1 := .string ⟨#[]⟩) (u2 := .int .i64 0) (b := w.heap.size) (c := w.heap.size + 1) hb1 (by first | assumption | go_keep); obtain ⟨bc1, bf1⟩ := bcell hb1; have hs1 := hb1.size; have HB1 : Hid (Below w.heap.size w w1) := (by refine Below.trans ?_ (hb1.mono (by first | (simp; omega) | simp | omega)); repeat (first | exact Below.refl _ _ | apply Below.drew | refine Below.alloc ?_ (by first | (simp; omega) | simp | omega) _)); clear hb1; simp only [heap_drew, World.size_alloc, Nat.add_one_le_iff] at hs1 bc1 bf1; have n1 : w1.heap.size ≠ w.heap.size := (by omega); have n1' : w.heap.size ≠ w1.heap.size := (by omega); have n7 : w1.heap.size ≠ w.heap.size + 1 := (by omega); have n7' : w.heap.size + 1 ≠ w1.heap.size := (by omega))
    | (go_at_call 78; refine (unhide C2 _).mono ?_; rintro e w2 ⟨rfl, hb2⟩; obtain ⟨m0, m1, m2, m3, m4, m5, m6, m7, m8, m9, m10⟩ := keepS (v0 := .bool n) (v1 := .string g) (v2 := .int .i64 x) (u0 := .bool false) (u1 := .string ⟨#[]⟩) (u2 := .int .i64 0) (b := w.heap.size) (c := w.heap.size + 1) hb2 (by first | assumption | go_keep); obtain ⟨bc2, bf2⟩ := bcell hb2; have hs2 := hb2.size; have HB2 : Hid (Below w.heap.size w w2) := (by refine Below.trans ?_ (hb2.mono (by first | (simp; omega) | simp | omega)); repeat (first | exact HB1.out | apply Below.drew | refine Below.alloc ?_ (by first | (simp; omega) | simp | omega) _)); clear hb2; (try simp only [World.size_alloc] at hs2 bc2 bf2); have n2 : w2.heap.size ≠ w.heap.size := (by omega); have n2' : w.heap.size ≠ w2.heap.size := (by omega)))
  all_goals go_wp2
  all_goals refine bodyPost_ret (ret_norm _ ⟨rn, rg, rx⟩ (by simp [go_sem, *]) (by simp [go_sem, *]) (by simp [go_sem, *]) _ rfl) rfl ⟨rfl, ?_⟩
  · exact below3a HB2.out (by omega) (by omega) _ _ _ _
  · exact below3 (below3 HB2.out (by omega) _ _ _) (by omega) _ _ _
  · exact below3 (below3 HB2.out (by omega) _ _ _) (by omega) _ _ _
end Go.Proofs.YthpnclhfooileaaGreatDoor.rd
