/- For FrameSums: append of one byte in a drawn region, exclusive or of bytes and of sums, four bytes as a number. -/
import Derived.Test.YtgafjbgplcjnnaaDoorGu
import Derived.Deep.RegionLaw
import Derived.Deep.AppendLies
namespace Go.Proofs.YtgafjbgplcjnnaaDoor.fr
open Go.RowKit Go.Joins

theorem step_app {ops : Array Oper} {op : Oper} {a : Act} {K : Act → World → Prop} {Q : Exit → Act → World → Prop} {E0 : Prop} (B : Nat) (wr W : World) (v : Value) (l : List UInt8) (c : UInt8) (S X : Operand) (hgd : op.guard = none)
    (ho : op.op = .call { callee := .builtin .append, args := #[S, X], argTypes := #[22, 22] }) (hs : a.eval S = v) (hx : a.eval X = .slice (some ⟨wr.heap.size, 0, none⟩) 1 1)
    (hown : Hid (OB wr B v l)) (hn : Hid (l.length + 1 ≤ 70000000000001)) (hBw : Hid (B ≤ wr.heap.size)) (hW : Hid (Below wr.heap.size wr W)) (hz : W.heap.size = wr.heap.size + 1) (hnews : Hid (W.heap[wr.heap.size]? = some (.cells #[vb c] 5 (0, 0))))
    (h : ∀ g' n' cap' w1, Hid (OB w1 B (.slice (some ⟨g', 0, none⟩) n' cap') (l ++ [c])) → Hid (Below B wr w1) → K (a.put op.dst (.slice (some ⟨g', 0, none⟩) n' cap')) w1) :
    if Region.wanted op (yielded ops a.tmps) = true then Oper.wp Tryd.prog op a W K Q else E0 := by
  obtain ⟨i0, hi, hz0, hz1, hz2⟩ := info_parts infoU
  have hB := unhide hW
  have hN := unhide hn
  have hb := unhide hBw
  have ownW : OB W B v l := (unhide hown).keep hB (unhide hown).lt
  refine step_append_lies _ hgd _ _ _ ho B 5 i0 (.int .u8 0) 1 1 Tryd.underlying22 hi hz0 hz1 hz2 rfl (by omega) v l.length (l.map vb) hs ownW
    ⟨wr.heap.size, 0, none⟩ 1 1 [vb c] hx rfl (fun j u hu => ?_) (fun u hu => ?_) (by omega) (by unfold maxLen; omega) (by omega) (by omega) (wr.heap.size + 1) hz ?_
  · have e : (⟨wr.heap.size, 0, none⟩ : Addr).add j = ⟨wr.heap.size, j, none⟩ := by unfold Addr.add; split <;> simp_all
    rw [e, blk_cell (unhide hnews)]
    simpa using hu
  · obtain rfl := List.mem_singleton.mp hu
    rfl
  · intro g' cap' w1 ho1 hg hat hlt
    refine h g' (l.length + 1) cap' w1 ?_ ?_
    · show OB _ _ _ _
      unfold OB
      rw [List.length_append, List.map_append]
      exact ho1
    · exact ownW.bl hg (hB.mono hb) (by omega) (Nat.le_refl _)

theorem xor8 (a b : UInt8) : Go.bits .xor .u8 (a.toNat : Int) (b.toNat : Int) = ((a ^^^ b).toNat : Int) := by
  show IntKind.u8.wrap ((BitVec.ofInt 8 (a.toNat : Int) ^^^ BitVec.ofInt 8 (b.toNat : Int)).toNat : Int) = _
  rw [ofInt8, ofInt8, ← UInt8.toBitVec_xor]
  have := (a ^^^ b).toNat_lt
  exact IntWalk.u8_in _ ⟨by omega, by show ((a ^^^ b).toNat : Int) ≤ 255; omega⟩
theorem xor32 (x y : BitVec 32) : Go.bits .xor .u32 (x.toNat : Int) (y.toNat : Int) = ((x ^^^ y).toNat : Int) := by
  show IntKind.u32.wrap ((BitVec.ofInt 32 (x.toNat : Int) ^^^ BitVec.ofInt 32 (y.toNat : Int)).toNat : Int) = _
  rw [ofInt32, ofInt32]
  have := (x ^^^ y).isLt
  exact IntWalk.u32_in _ ⟨by omega, by omega⟩
/-- Three lists held against each other, byte by byte. -/
theorem xor_at (a b c : List UInt8) (i : Nat) (x y z : UInt8) (ha : a[i]? = some x) (hb : b[i]? = some y) (hc : c[i]? = some z) : (xorL (xorL a b) c)[i]? = some ((x ^^^ y) ^^^ z) := by
  unfold xorL
  rw [List.getElem?_zipWith, List.getElem?_zipWith, ha, hb, hc]
theorem off_at {w : World} {a : Addr} {k : Nat} {v : Value} (h : w.cell? (a.add k) = some v) (hk : k ≠ 0) : w.cell? ⟨a.block, a.off + k, none⟩ = some v := by
  unfold Addr.add at h
  rwa [if_neg hk] at h
theorem BS.getx {w : World} {v : Value} {l : List UInt8} (h : BS w v l) (hl : 0 < l.length) : ∃ a c, v = .slice (some a) l.length c ∧ ∀ (j : Nat) (u : UInt8), l[j]? = some u → w.cell? (a.add j) = some (.int .u8 (u.toNat : Int)) := by
  obtain ⟨oa, c, rfl, _, _, h3, h4⟩ := h
  cases oa with
  | none => rw [(h3 rfl).1] at hl; simp at hl
  | some a => exact ⟨a, c, rfl, fun j u hu => h4 a rfl j u hu⟩
theorem BS.uniq {w : World} {v : Value} {l m : List UInt8} (h : BS w v l) (k : BS w v m) : l = m := by
  obtain ⟨oa, c, rfl, _, _, h3, h4⟩ := h
  obtain ⟨ob, d, e, _, _, _, k4⟩ := k
  simp only [Value.slice.injEq] at e
  obtain ⟨rfl, hl, rfl⟩ := e
  cases oa with
  | none =>
    have := (h3 rfl).1
    subst this
    exact (List.eq_nil_of_length_eq_zero hl.symm).symm
  | some a =>
    refine List.ext_getElem hl fun i h1 h2 => ?_
    have q1 := h4 a rfl i _ (List.getElem?_eq_getElem h1)
    have q2 := k4 a rfl i _ (List.getElem?_eq_getElem h2)
    rw [q1] at q2
    simp only [vb, Option.some.injEq, Value.int.injEq, true_and] at q2
    exact UInt8.toNat_inj.mp (by omega)
/-- The sums of three lists of bytes, each told by the value that it lies behind. -/
theorem three_sums {a : Addr} {G : World → Prop} (K : FrameOK a G) (w : World) (hG : G w) (sa sb sc : Value) (la lb lc : List UInt8) (ha : BS w sa la) (hb : BS w sb lb) (hc : BS w sc lc) (na : la.length ≤ 1000000000) (nb : lb.length ≤ 1000000000) (nc : lc.length ≤ 1000000000) :
    ∃ sm : Value → BitVec 32, (sm sa = crc la ∧ sm sb = crc lb ∧ sm sc = crc lc) ∧ ∀ v u, (v = sa ∨ v = sb ∨ v = sc) → Below w.heap.size w u → Calls Tryd.prog 10 #[v] u fun e u' => e = .returned (.int .u32 ((sm v).toNat : Int)) ∧ Below w.heap.size w u' := by
  classical
  refine ⟨fun v => if v = sa then crc la else if v = sb then crc lb else crc lc, ⟨if_pos rfl, ?_, ?_⟩, fun v u hv hu => ?_⟩
  · by_cases e : sb = sa
    · subst e
      simp only [if_true]
      rw [ha.uniq hb]
    · simp only [e, if_false, if_true]
  · by_cases e : sc = sa
    · subst e
      simp only [if_true]
      rw [ha.uniq hc]
    · by_cases e2 : sc = sb
      · subst e2
        simp only [e, if_false, if_true]
        rw [hb.uniq hc]
      · simp only [e, e2, if_false]
  · have hG2 := K.keep w u hG hu
    by_cases e : v = sa
    · subst e
      simp only [if_true]
      exact (K.sum la v u hG2 (ha.keep hu) na).mono fun e u' ⟨h1, h2⟩ => ⟨h1, hu.trans (h2.mono hu.size)⟩
    · by_cases e2 : v = sb
      · subst e2
        simp only [e, if_false, if_true]
        exact (K.sum lb v u hG2 (hb.keep hu) nb).mono fun e u' ⟨h1, h2⟩ => ⟨h1, hu.trans (h2.mono hu.size)⟩
      · have e3 : v = sc := by
          rcases hv with q | q | q
          · exact absurd q e
          · exact absurd q e2
          · exact q
        subst e3
        simp only [e, e2, if_false]
        exact (K.sum lc v u hG2 (hc.keep hu) nc).mono fun e u' ⟨h1, h2⟩ => ⟨h1, hu.trans (h2.mono hu.size)⟩
theorem frm_mid (l : List UInt8) : ((frm l).take (l.length + 8)).drop 8 = l := by
  have e := frm_head l []
  rw [List.append_nil, List.append_nil] at e
  rw [e, ← List.append_assoc, List.take_append, List.drop_append]
  simp [four]
/-- The bytes of a frame, beside the payload: its length, that length's sum, the payload's sum. -/
structure Parts (F : List UInt8) (n : Nat) (x y z : BitVec 32) (h0 h1 h2 h3 p0 p1 p2 p3 t0 t1 t2 t3 : UInt8) : Prop where
  a0 : F[0]? = some h0
  a1 : F[1]? = some h1
  a2 : F[2]? = some h2
  a3 : F[3]? = some h3
  b0 : F[4]? = some p0
  b1 : F[5]? = some p1
  b2 : F[6]? = some p2
  b3 : F[7]? = some p3
  c0 : F[n + 8]? = some t0
  c1 : F[n + 9]? = some t1
  c2 : F[n + 10]? = some t2
  c3 : F[n + 11]? = some t3
  na : num [h0, h1, h2, h3] = x
  nb : num [p0, p1, p2, p3] = y
  nc : num [t0, t1, t2, t3] = z
  hd : F.take 4 = four x
theorem parts (l : List UInt8) : ∃ h0 h1 h2 h3 p0 p1 p2 p3 t0 t1 t2 t3, Parts (frm l) l.length (BitVec.ofNat 32 l.length) (crc (four (BitVec.ofNat 32 l.length))) (crc l) h0 h1 h2 h3 p0 p1 p2 p3 t0 t1 t2 t3 := by
  have e := frm_head l []
  rw [List.append_nil, List.append_nil] at e
  have key : ∀ (x : BitVec 32), num (four x) = x := fun x => by have := num_four x []; rwa [List.append_nil] at this
  have far : ∀ (x y z : BitVec 32) (k : Nat), (four x ++ (four y ++ (l ++ four z)))[l.length + 8 + k]? = (four z)[k]? := fun x y z k => by
    rw [List.getElem?_append_right (by rw [four_length]; omega), List.getElem?_append_right (by rw [four_length, four_length]; omega), List.getElem?_append_right (by rw [four_length, four_length]; omega)]
    congr 1
    rw [four_length, four_length]
    omega
  rw [e]
  exact ⟨_, _, _, _, _, _, _, _, _, _, _, _, rfl, rfl, rfl, rfl, rfl, rfl, rfl, rfl, far _ _ _ 0, far _ _ _ 1, far _ _ _ 2, far _ _ _ 3, key _, key _, key _, take4 _ _⟩
theorem or32 (x y : BitVec 32) : Go.bits .or .u32 (x.toNat : Int) (y.toNat : Int) = ((x ||| y).toNat : Int) := by
  show IntKind.u32.wrap ((BitVec.ofInt 32 (x.toNat : Int) ||| BitVec.ofInt 32 (y.toNat : Int)).toNat : Int) = _
  rw [ofInt32, ofInt32]
  have := (x ||| y).isLt
  exact IntWalk.u32_in _ ⟨by omega, by omega⟩
theorem shl_or (x y k : Nat) (h : y < 2 ^ k) : x * 2 ^ k ||| y = x * 2 ^ k + y := by
  rw [← Nat.shiftLeft_eq, ← Nat.shiftLeft_add_eq_or_of_lt h]
/-- Four bytes put together. -/
theorem or4 (a b c d : UInt8) : Go.bits .or .u32 (Go.bits .or .u32 (Go.bits .or .u32 ((a.toNat : Int) % 4294967296 * 16777216 % 4294967296) ((b.toNat : Int) % 4294967296 * 65536 % 4294967296)) ((c.toNat : Int) % 4294967296 * 256 % 4294967296)) ((d.toNat : Int) % 4294967296) = ((num [a, b, c, d]).toNat : Int) := by
  have ha := a.toNat_lt
  have hb := b.toNat_lt
  have hc := c.toNat_lt
  have hd := d.toNat_lt
  have e0 : (a.toNat : Int) % 4294967296 * 16777216 % 4294967296 = ((BitVec.ofNat 32 (a.toNat * 16777216)).toNat : Int) := by rw [BitVec.toNat_ofNat]; omega
  have e1 : (b.toNat : Int) % 4294967296 * 65536 % 4294967296 = ((BitVec.ofNat 32 (b.toNat * 65536)).toNat : Int) := by rw [BitVec.toNat_ofNat]; omega
  have e2 : (c.toNat : Int) % 4294967296 * 256 % 4294967296 = ((BitVec.ofNat 32 (c.toNat * 256)).toNat : Int) := by rw [BitVec.toNat_ofNat]; omega
  have e3 : (d.toNat : Int) % 4294967296 = ((BitVec.ofNat 32 d.toNat).toNat : Int) := by rw [BitVec.toNat_ofNat]; omega
  have f0 : (BitVec.ofNat 32 (a.toNat * 16777216)).toNat = a.toNat * 16777216 := by rw [BitVec.toNat_ofNat]; omega
  have f1 : (BitVec.ofNat 32 (b.toNat * 65536)).toNat = b.toNat * 65536 := by rw [BitVec.toNat_ofNat]; omega
  have f2 : (BitVec.ofNat 32 (c.toNat * 256)).toNat = c.toNat * 256 := by rw [BitVec.toNat_ofNat]; omega
  have f3 : (BitVec.ofNat 32 d.toNat).toNat = d.toNat := by rw [BitVec.toNat_ofNat]; omega
  rw [e0, e1, e2, e3, or32, or32, or32, num_nat a b c d []]
  rw [BitVec.toNat_or, BitVec.toNat_or, BitVec.toNat_or, f0, f1, f2, f3]
  have g1 := shl_or a.toNat (b.toNat * 65536) 24 (by omega)
  have g2 := shl_or (a.toNat * 256 + b.toNat) (c.toNat * 256) 16 (by omega)
  have g3 := shl_or ((a.toNat * 256 + b.toNat) * 256 + c.toNat) d.toNat 8 (by omega)
  rw [show a.toNat * 2 ^ 24 = a.toNat * 16777216 by omega] at g1
  rw [show (a.toNat * 256 + b.toNat) * 2 ^ 16 = a.toNat * 16777216 + b.toNat * 65536 by omega] at g2
  rw [show ((a.toNat * 256 + b.toNat) * 256 + c.toNat) * 2 ^ 8 = a.toNat * 16777216 + b.toNat * 65536 + c.toNat * 256 by omega] at g3
  rw [g1, g2, g3]
  omega
/-- What is known of three lists held against each other. -/
structure Xor3 (la lb lc L : List UInt8) (n : Nat) : Prop where
  len : L.length = n
  at_ : ∀ (i : Nat) (x y z : UInt8), i < n → la[i]? = some x → lb[i]? = some y → lc[i]? = some z → L[i]? = some ((x ^^^ y) ^^^ z)
  sum : crc L = (crc (la.take n) ^^^ crc (lb.take n)) ^^^ crc (lc.take n)
theorem xor3 (la lb lc : List UInt8) (n : Nat) (ha : n ≤ la.length) (hb : n ≤ lb.length) (hc : n ≤ lc.length) : Xor3 la lb lc (xorL (xorL (la.take n) (lb.take n)) (lc.take n)) n where
  len := by
    have e1 : (la.take n).length = n := by rw [List.length_take]; omega
    have e2 : (lb.take n).length = n := by rw [List.length_take]; omega
    have e3 : (lc.take n).length = n := by rw [List.length_take]; omega
    rw [xorL_length _ _ (by rw [xorL_length _ _ (by omega)]; omega), xorL_length _ _ (by omega), e1]
  at_ := fun i x y z hi hx hy hz => xor_at _ _ _ i x y z (by rw [List.getElem?_take, if_pos hi]; exact hx) (by rw [List.getElem?_take, if_pos hi]; exact hy) (by rw [List.getElem?_take, if_pos hi]; exact hz)
  sum := crc_three _ _ _ (by rw [List.length_take, List.length_take]; omega) (by rw [List.length_take, List.length_take]; omega)
end Go.Proofs.YtgafjbgplcjnnaaDoor.fr
