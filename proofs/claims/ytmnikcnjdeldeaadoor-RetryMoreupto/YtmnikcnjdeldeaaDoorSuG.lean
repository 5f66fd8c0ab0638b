/- Several texts in one. -/
import Derived.Test.YtmnikcnjdeldeaaDoorIbG
import Derived.Lib.Repeat
import Derived.Deep.CutRange
import Derived.Deep.DeepCutAuto
/- sum's contract: two rows of digits of one width, added. -/
namespace Go.Proofs.YtmnikcnjdeldeaaDoor.rd
open Go.RowKit

/-- Two rows of digits, the greatest first, of one width: the sum's digits and what is left to carry. -/
def sumL : List UInt8 → List UInt8 → List UInt8 × Nat
  | a :: xs, b :: ys => ((48 + ((a.toNat - 48) + (b.toNat - 48) + (sumL xs ys).2) % 10).toUInt8 :: (sumL xs ys).1, ((a.toNat - 48) + (b.toNat - 48) + (sumL xs ys).2) / 10)
  | _, _ => ([], 0)
def sumD (x y : ByteArray) : ByteArray := ⟨((48 + (sumL x.data.toList y.data.toList).2).toUInt8 :: (sumL x.data.toList y.data.toList).1).toArray⟩

def AllDig (s : ByteArray) : Prop := ∀ c ∈ s.data.toList, nu.dig c = true
theorem AllDig.at {s : ByteArray} (h : AllDig s) (k : Nat) (hk : k < s.size) : 48 ≤ s[k].toNat ∧ s[k].toNat ≤ 57 := by
  have h' : k < s.data.toList.length := by simpa using hk
  have := h s[k] (List.getElem_mem h')
  simpa [nu.dig] using this

theorem drop_at (s : ByteArray) (k : Nat) (h : k < s.size) : s.data.toList.drop k = s[k] :: s.data.toList.drop (k + 1) := by
  have h' : k < s.data.toList.length := by simpa using h
  rw [List.drop_eq_getElem_cons h']; rfl
theorem drop_end (s : ByteArray) : s.data.toList.drop s.size = [] := List.drop_eq_nil_of_le (by simp)

theorem sumL_carry (x y : List UInt8) (hx : ∀ c ∈ x, nu.dig c = true) (hy : ∀ c ∈ y, nu.dig c = true) : (sumL x y).2 ≤ 1 := by
  induction x generalizing y with
  | nil => simp [sumL]
  | cons a xs ih =>
    cases y with
    | nil => simp [sumL]
    | cons b ys =>
      have h1 : 48 ≤ a.toNat ∧ a.toNat ≤ 57 := by simpa [nu.dig] using hx a (by simp)
      have h2 : 48 ≤ b.toNat ∧ b.toNat ≤ 57 := by simpa [nu.dig] using hy b (by simp)
      have h3 := ih ys (fun c hc => hx c (by simp [hc])) (fun c hc => hy c (by simp [hc]))
      simp only [sumL]
      omega
theorem sumL_len (x y : List UInt8) (h : x.length = y.length) : (sumL x y).1.length = x.length := by
  induction x generalizing y with
  | nil => simp [sumL]
  | cons a xs ih =>
    cases y with
    | nil => simp at h
    | cons b ys =>
      simp only [sumL, List.length_cons]
      rw [ih ys (by simpa using h)]

/-- A row of the answer while it is made. -/
def row (k : Nat) (l : List UInt8) : Array Value := (List.replicate k (Value.int .u8 0) ++ l.map vb).toArray
theorem row_size (k : Nat) (l : List UInt8) : (row k l).size = k + l.length := by simp [row]
theorem row_zero (k : Nat) (l : List UInt8) (j : Nat) (h : j < k) : (row k l)[j]? = some (.int .u8 0) := by
  simp only [row, List.getElem?_toArray]
  rw [List.getElem?_append_left (by simpa using h), List.getElem?_replicate, if_pos h]
theorem row_set (k : Nat) (l : List UInt8) (c : UInt8) (v : Value) (hv : v = vb c) : (row (k + 1) l).setIfInBounds k v = row k (c :: l) := by
  subst hv
  apply Array.ext'
  simp only [row, Array.toList_setIfInBounds, List.toList_toArray]
  rw [List.replicate_succ', List.append_assoc, List.set_append_right _ _ (by simp)]
  simp
theorem row_full (l : List UInt8) (j : Nat) (h : j < l.length) : (row 0 l)[j]? = some (.int .u8 (l[j].toNat : Int)) := by
  simp [row, vb, h]
theorem made_row (n : Nat) : madeCells #[.int .u8 0] n = row n [] := by
  apply Array.ext'
  rw [toList_madeCells_one]
  simp [row]

theorem row_back {w : World} {B cap : Nat} {l : List UInt8} (h : w.heap[B]? = some (.cells (row 0 l) 5 (0, 0))) :
    (convert 86 9 (.slice (some ⟨B, 0, none⟩) l.length cap)).run Tryd.prog w = .ok (.string ⟨l.toArray⟩) w := by
  refine run_convert_bytes_back w 86 9 5 ⟨B, 0, none⟩ cap l Tryd.underlying86 Tryd.underlying5 Tryd.underlying9 (fun j hj => ?_)
  have e : (⟨B, 0, none⟩ : Addr).add j = ⟨B, j, none⟩ := by unfold Addr.add; split <;> simp_all
  rw [e, blk_cell h, row_full l j hj]

theorem u8_of (n : Nat) (h : n < 256) : ((n.toUInt8).toNat : Int) = (n : Int) := by
  have : n.toUInt8.toNat = n := by simp [Nat.toUInt8, Nat.mod_eq_of_lt h]
  omega

end Go.Proofs.YtmnikcnjdeldeaaDoor.rd

/- top's and spread's contracts. -/
namespace Go.Proofs.YtmnikcnjdeldeaaDoor.rd
open Go.RowKit

theorem top_any (d : Dn) (w : World) (hs : d.dg.size ≤ 4611686018427387904) (h0 : -1000000 ≤ d.ex) (h1 : d.ex ≤ 1000000) :
    Calls Tryd.prog 40 #[dv d] w fun e w' => e = .returned (.int .i64 (d.dg.size + d.ex)) ∧ Below w.heap.size w w' := by
  obtain ⟨n, g, x⟩ := d
  simp only [dv] at hs h0 h1 ⊢
  go_enter Tryd.func40, Tryd.ntmps40
  go_wp2
  go_ret
  exact ⟨rfl, (Below.refl _ _).alloc (Nat.le_refl _) _⟩

/-- So many noughts. -/
def zeros (c : Nat) : ByteArray := ⟨(Lib.repeatL (⟨#[48]⟩ : ByteArray).data.toList c).toArray⟩
theorem repeat_any (c : Nat) (w : World) (hc : c ≤ 140737488355328) : Calls Tryd.prog 54 #[.string ⟨#[48]⟩, .int .i64 c] w fun e w' => e = .returned (.string (zeros c)) ∧ Below w.heap.size w w' :=
  Tryd.strings_Repeat ⟨#[48]⟩ c w (by omega) (by simp [ByteArray.size]; omega)

def spreadB (g : ByteArray) (ahead behind : Nat) : ByteArray := zeros ahead ++ g ++ zeros behind
theorem zeros_size (c : Nat) : (zeros c).size = c := by
  have e : (zeros c).size = (Lib.repeatL (⟨#[48]⟩ : ByteArray).data.toList c).length := by unfold zeros; exact List.size_toArray
  rw [e, Lib.repeatL_length]
  simp

theorem keepSp {b0 : Nat} {v0 : Value} {W w1 : World} (hb : Below W.heap.size W w1)
    (h : W.cell? ⟨b0, 1, none⟩ = some v0 ∧ b0 < W.heap.size) :
    w1.cell? ⟨b0, 1, none⟩ = some v0 ∧ b0 < w1.heap.size := by
  obtain ⟨c0, z0⟩ := h
  exact ⟨keepC hb c0, Nat.lt_of_lt_of_le z0 hb.size⟩

end Go.Proofs.YtmnikcnjdeldeaaDoor.rd

/- Add's contract where both numbers, in their one form, have one sign. -/
namespace Go.Proofs.YtmnikcnjdeldeaaDoor.rd
open Go.RowKit

/-- While two numbers are added: the two parameters' blocks, the answer's, the variable's cell; nothing old has turned. -/
structure AddW (w wc : World) (p q : Dn) (eX : Value) : Prop where
  a : DLies wc w.heap.size p
  b : DLies wc (w.heap.size + 1) q
  r : DLies wc (w.heap.size + 2) zed
  below : Below w.heap.size w wc
  g : wc.cell? ⟨0, 0, none⟩ = some eX
  lt : 0 < w.heap.size

theorem AddW.start (w : World) (p q : Dn) (eX : Value) (hg : 0 < w.heap.size) (hE : w.cell? ⟨0, 0, none⟩ = some eX) :
    AddW w (((w.alloc (.cells #[.bool p.neg, .string p.dg, .int .i64 p.ex] 47)).alloc (.cells #[.bool q.neg, .string q.dg, .int .i64 q.ex] 47)).alloc (.cells #[.bool false, .string ⟨#[]⟩, .int .i64 0] 47)) p q eX where
  a := ((dlies_new w p).alloc _).alloc _
  b := by
    have := (dlies_new (w.alloc (.cells #[.bool p.neg, .string p.dg, .int .i64 p.ex] 47)) q).alloc (.cells #[.bool false, .string ⟨#[]⟩, .int .i64 0] 47)
    simpa using this
  r := by
    have := dlies_new ((w.alloc (.cells #[.bool p.neg, .string p.dg, .int .i64 p.ex] 47)).alloc (.cells #[.bool q.neg, .string q.dg, .int .i64 q.ex] 47)) zed
    rw [show ((w.alloc (.cells #[.bool p.neg, .string p.dg, .int .i64 p.ex] 47)).alloc (.cells #[.bool q.neg, .string q.dg, .int .i64 q.ex] 47)).heap.size = w.heap.size + 2 by simp] at this
    exact this
  below := (((Below.refl _ _).alloc (Nat.le_refl _) _).alloc (by simp) _).alloc (by simp; omega) _
  g := by
    rw [World.cell?_alloc_past _ _ _ (by first | (simp; done) | (simp; omega)), World.cell?_alloc_past _ _ _ (by first | (simp; done) | (simp; omega)), World.cell?_alloc_past _ _ _ hg]
    exact hE
  lt := hg

theorem AddW.call {w wc w' : World} {p q : Dn} {eX : Value} (h : AddW w wc p q eX) (hb : Below wc.heap.size wc w') : AddW w w' p q eX where
  a := h.a.below hb (blk_lt h.a)
  b := h.b.below hb (blk_lt h.b)
  r := h.r.below hb (blk_lt h.r)
  below := h.below.trans (hb.mono h.below.size)
  g := keepC hb h.g
  lt := h.lt
theorem AddW.drew {w wc : World} {p q : Dn} {eX : Value} (h : AddW w wc p q eX) : AddW w wc.drew p q eX := ⟨h.a, h.b, h.r, h.below.drew, h.g, h.lt⟩
theorem AddW.drewN {w wc : World} {p q : Dn} {eX : Value} (h : AddW w wc p q eX) (n : Nat) : AddW w (wc.drewN n) p q eX := ⟨h.a, h.b, h.r, h.below.trans ((Upd.drewN w.heap.size wc n).below (Nat.le_refl _)), h.g, h.lt⟩
theorem AddW.set1 {w wc : World} {p q : Dn} {eX : Value} (h : AddW w wc p q eX) (x : Dn) :
    AddW w (((wc.setCell ⟨w.heap.size, 0, none⟩ (.bool x.neg)).setCell ⟨w.heap.size, 1, none⟩ (.string x.dg)).setCell ⟨w.heap.size, 2, none⟩ (.int .i64 x.ex)) x q eX := by
  have hu := (Upd.setCell w.heap.size 0 wc (.bool x.neg)).trans ((Upd.setCell w.heap.size 1 _ (.string x.dg)).trans (Upd.setCell w.heap.size 2 _ (.int .i64 x.ex)))
  have hlt := h.lt
  exact ⟨h.a.set _ _ _, (hu.block _ (by omega)).trans h.b, (hu.block _ (by omega)).trans h.r, below3 h.below (Nat.le_refl _) _ _ _, by rw [World.cell?_of_block (w := wc) (hu.block _ (by show 0 ≠ _; omega))]; exact h.g, h.lt⟩
theorem AddW.set2 {w wc : World} {p q : Dn} {eX : Value} (h : AddW w wc p q eX) (x : Dn) :
    AddW w (((wc.setCell ⟨w.heap.size + 1, 0, none⟩ (.bool x.neg)).setCell ⟨w.heap.size + 1, 1, none⟩ (.string x.dg)).setCell ⟨w.heap.size + 1, 2, none⟩ (.int .i64 x.ex)) p x eX := by
  have hu := (Upd.setCell (w.heap.size + 1) 0 wc (.bool x.neg)).trans ((Upd.setCell (w.heap.size + 1) 1 _ (.string x.dg)).trans (Upd.setCell (w.heap.size + 1) 2 _ (.int .i64 x.ex)))
  have hlt := h.lt
  exact ⟨(hu.block _ (by omega)).trans h.a, h.b.set _ _ _, (hu.block _ (by omega)).trans h.r, below3 h.below (by omega) _ _ _, by rw [World.cell?_of_block (w := wc) (hu.block _ (by show 0 ≠ _; omega))]; exact h.g, h.lt⟩

/-- How many noughts a number gets behind it, and ahead of it. -/
def behindOf (p q : Dn) : Nat := (p.ex - min p.ex q.ex).toNat
def aheadOf (p q : Dn) : Nat := (max (p.dg.size + p.ex) (q.dg.size + q.ex) - min p.ex q.ex - behindOf p q - p.dg.size).toNat
/-- The answer where both have one sign. -/
def addSame (p q : Dn) (eX : Value) : Value × Value :=
  bounded p.neg (sumD (spreadB p.dg (aheadOf p q) (behindOf p q)) (spreadB q.dg (aheadOf q p) (behindOf q p))) (min p.ex q.ex) eX

theorem wrap_in (n : Int) (h0 : -9223372036854775808 ≤ n) (h1 : n ≤ 9223372036854775807) : IntKind.i64.wrap n = n := IntWalk.i64_in n ⟨h0, h1⟩

theorem dig_filter (l : List UInt8) : ∀ c ∈ l.filter nu.dig, nu.dig c = true := fun _ h => (List.mem_filter.1 h).2
theorem mem_dropWhile {l : List UInt8} {f : UInt8 → Bool} {c : UInt8} (h : c ∈ l.dropWhile f) : c ∈ l := (List.dropWhile_suffix f).subset h
/-- What a number in its one form is. -/
theorem oneForm_good (neg : Bool) (s : ByteArray) (ex : Int) (hd : AllDig s) : (oneForm neg s ex).1.dg.size ≤ s.size ∧ -9999 ≤ (oneForm neg s ex).1.ex ∧ (oneForm neg s ex).1.ex ≤ 9999 ∧ AllDig (oneForm neg s ex).1.dg := by
  have l1 := trimL_le s
  have l2 := trimR_le (trimL s)
  have hz : AllDig (zed).dg := fun c hc => by simp [zed] at hc
  have ht : AllDig (trimR (trimL s)) := by
    intro c hc
    have h1 : c ∈ Lib.trimRightB (trimL s).data.toList 48 := by simpa [trimR] using hc
    unfold Lib.trimRightB at h1
    have h2 := mem_dropWhile (List.mem_reverse.1 h1)
    have h3 : c ∈ Lib.trimLeftB s.data.toList 48 := by simpa [trimL] using (List.mem_reverse.1 h2)
    exact hd c (mem_dropWhile h3)
  unfold oneForm
  split
  · exact ⟨by simp [zed], by simp [zed], by simp [zed], hz⟩
  · split
    · exact ⟨by simp [zed], by simp [zed], by simp [zed], hz⟩
    · split
      · exact ⟨by simp [zed], by simp [zed], by simp [zed], hz⟩
      · refine ⟨?_, ?_, ?_, ht⟩
        · show (trimR (trimL s)).size ≤ s.size; omega
        · simp only; omega
        · simp only; omega
theorem digs_dig (s : ByteArray) : AllDig (digs s) := by
  intro c hc
  have : c ∈ s.data.toList.filter nu.dig := by simpa [digs] using hc
  exact dig_filter _ c this
theorem norm_good (d : Dn) : (norm d).dg.size ≤ d.dg.size ∧ -9999 ≤ (norm d).ex ∧ (norm d).ex ≤ 9999 ∧ AllDig (norm d).dg := by
  have h := oneForm_good d.neg (digs d.dg) d.ex (digs_dig d.dg)
  have := digs_le d.dg
  exact ⟨by have := h.1; unfold norm; omega, h.2.1, h.2.2.1, h.2.2.2⟩

theorem zeros_dig (c : Nat) : AllDig (zeros c) := by
  have key : ∀ c, ∀ b ∈ Lib.repeatL [48] c, nu.dig b = true := by
    intro c
    induction c with
    | zero => intro b hb; simp [Lib.repeatL] at hb
    | succ c ih =>
      intro b hb
      simp only [Lib.repeatL, List.cons_append, List.nil_append, List.mem_cons] at hb
      rcases hb with rfl | hb
      · decide
      · exact ih b hb
  intro b hb
  exact key c b (by simpa [zeros] using hb)
theorem cat_dig {x y : ByteArray} (hx : AllDig x) (hy : AllDig y) : AllDig (x ++ y) := by
  intro b hb
  have : b ∈ x.data.toList ++ y.data.toList := by simpa using hb
  rcases List.mem_append.1 this with h | h
  · exact hx b h
  · exact hy b h
theorem spread_dig {g : ByteArray} (a b : Nat) (h : AllDig g) : AllDig (spreadB g a b) := cat_dig (cat_dig (zeros_dig a) h) (zeros_dig b)
theorem spread_size (g : ByteArray) (a b : Nat) : (spreadB g a b).size = a + g.size + b := by
  unfold spreadB; simp [zeros_size]

theorem keepAd {b0 b1 : Nat} {v0 v1 v2 v3 v4 v5 : Value} {W w1 : World} (hb : Below W.heap.size W w1)
    (h : W.cell? ⟨b0, 0, none⟩ = some v0 ∧ W.cell? ⟨b0, 1, none⟩ = some v1 ∧ W.cell? ⟨b0, 2, none⟩ = some v2 ∧ W.cell? ⟨b1, 0, none⟩ = some v3 ∧ W.cell? ⟨b1, 1, none⟩ = some v4 ∧ W.cell? ⟨b1, 2, none⟩ = some v5) :
    w1.cell? ⟨b0, 0, none⟩ = some v0 ∧ w1.cell? ⟨b0, 1, none⟩ = some v1 ∧ w1.cell? ⟨b0, 2, none⟩ = some v2 ∧ w1.cell? ⟨b1, 0, none⟩ = some v3 ∧ w1.cell? ⟨b1, 1, none⟩ = some v4 ∧ w1.cell? ⟨b1, 2, none⟩ = some v5 := by
  obtain ⟨c0, c1, c2, c3, c4, c5⟩ := h
  exact ⟨keepC hb c0, keepC hb c1, keepC hb c2, keepC hb c3, keepC hb c4, keepC hb c5⟩
theorem keepAe {b0 b1 : Nat} {v0 v1 : Value} {W w1 : World} (hb : Below W.heap.size W w1)
    (h : W.cell? ⟨b0, 0, none⟩ = some v0 ∧ W.cell? ⟨b1, 0, none⟩ = some v1 ∧ b0 < W.heap.size ∧ b1 < W.heap.size) :
    w1.cell? ⟨b0, 0, none⟩ = some v0 ∧ w1.cell? ⟨b1, 0, none⟩ = some v1 ∧ b0 < w1.heap.size ∧ b1 < w1.heap.size := by
  obtain ⟨c0, c1, z0, z1⟩ := h
  exact ⟨keepC hb c0, keepC hb c1, Nat.lt_of_lt_of_le z0 hb.size, Nat.lt_of_lt_of_le z1 hb.size⟩

end Go.Proofs.YtmnikcnjdeldeaaDoor.rd

/- awake's contract: the two examples are answered as they must be. -/
namespace Go.Proofs.YtmnikcnjdeldeaaDoor.rd
open Go.RowKit

theorem parsed_awake (eN eX : Value) : parsed ⟨#[45, 49, 50, 46, 53, 48, 101, 49]⟩ eN eX = (dv ⟨true, ⟨#[49, 50, 53]⟩, 0⟩, .nilIface) := by kernel_rfl
theorem added_awake (eX : Value) : addSame (norm ⟨false, ⟨#[49, 48]⟩, -2⟩) (norm ⟨false, ⟨#[50]⟩, -1⟩) eX = (dv ⟨false, ⟨#[51]⟩, -1⟩, .nilIface) := by kernel_rfl

end Go.Proofs.YtmnikcnjdeldeaaDoor.rd
