/- FrameWraps, over the calls' contracts. -/
import Derived.Test.YtgafjbgplcjnnaaDoorGs
namespace Go.Proofs.YtgafjbgplcjnnaaDoor.fr
open Go.RowKit Go.Joins

theorem infoP : (Tryd.prog.info? 59).map (fun i => i.comparable) = some true := by kernel_rfl
theorem infoE : (Tryd.prog.info? 76).map (fun i => i.size) = some 1 := by kernel_rfl
theorem eql_same (w : World) (a : Addr) : (binOp .eql 28 (.iface 59 (.pointer (some a))) (.iface 59 (.pointer (some a)))).run Tryd.prog w = .ok (.bool true) w := by
  have hi := infoP
  have hj := infoE
  cases h1 : Tryd.prog.info? 59 with
  | none => rw [h1] at hi; cases hi
  | some i =>
    cases h2 : Tryd.prog.info? 76 with
    | none => rw [h2] at hj; cases hj
    | some j =>
      rw [h1] at hi
      exact run_eql_iface_ptr_same w a Tryd.underlying28 Tryd.underlying59 h1 (by simpa using hi) h2

set_option maxRecDepth 100000 in
set_option maxHeartbeats 1600000 in
theorem sameErr_nil (w : World) : Calls Tryd.prog 16 #[.nilIface, .nilIface] w fun e w' => e = .returned (.bool true) ∧ w' = w := by
  go_enter Tryd.func16, Tryd.ntmps16
  go_wp2
  go_ret
  exact ⟨rfl, rfl⟩
set_option maxRecDepth 100000 in
set_option maxHeartbeats 1600000 in
theorem sameErr_long (a : Addr) (w : World) : Calls Tryd.prog 16 #[eL a, eL a] w fun e w' => e = .returned (.bool true) ∧ w' = w := by
  have h := eql_same w a
  simp only [eL]
  go_enter Tryd.func16, Tryd.ntmps16
  go_wp2
  go_ret
  exact ⟨rfl, rfl⟩

/-- The state behind the loop that writes over what was lent: one block alone has been written. -/
theorem xor1 (b : UInt8) : ∃ x : UInt8, Go.bits .xor .u8 (b.toNat : Int) 1 = (x.toNat : Int) := by
  refine ⟨b ^^^ 1, ?_⟩
  show IntKind.u8.wrap ((BitVec.ofInt 8 (b.toNat : Int) ^^^ BitVec.ofInt 8 1).toNat : Int) = _
  have e : BitVec.ofInt 8 1 = (1 : UInt8).toBitVec := by decide
  rw [ofInt8, e, ← UInt8.toBitVec_xor]
  have := (b ^^^ 1).toNat_lt
  exact IntWalk.u8_in _ ⟨by omega, by show ((b ^^^ 1).toNat : Int) ≤ 255; omega⟩

set_option maxRecDepth 100000 in
set_option maxHeartbeats 3200000 in
theorem wraps_any {a : Addr} {G : World → Prop} (K : FrameOK a G) (l : List UInt8) (v : Value) (w : World) (hG : G w) (h : BS w v l) :
    Calls Tryd.prog 3 #[v] w fun e w' => e = .returned (.bool true) ∧ Below w.heap.size w w' := by
  have HK := hide K
  have HG := hide hG
  have HB := hide h
  obtain ⟨oa, c, rfl, h1, h2, _⟩ := h
  clear K hG
  by_cases hlong : 134217728 ≤ l.length
  · have hl' : decide ((134217728 : Int) ≤ (l.length : Int)) = true := decide_eq_true (by omega)
    go_enter Tryd.func3, Tryd.ntmps3
    go_wp2
    go_ret
    exact ⟨rfl, Below.refl _ _⟩
  · have hl' : decide ((134217728 : Int) ≤ (l.length : Int)) = false := decide_eq_false (by omega)
    have C1 := hide (awake_any (unhide HK) w (unhide HG))
    go_enter Tryd.func3, Tryd.ntmps3
    go_wp2_with fail
    refine (unhide C1).mono ?_
    rintro e w1 ⟨rfl, b1⟩
    have B1 := hide b1
    have C2 := hide (lent_any l _ w1 ((unhide HB).keep b1) (by omega))
    clear C1 b1
    go_wp2_with fail
    refine (unhide C2).mono ?_
    rintro e w2 ⟨inv, rfl, o2, b2⟩
    have B2 := hide ((unhide B1).trans (b2.mono (unhide B1).size))
    have O2 := hide (o2.mono (unhide B1).size)
    have hlm : (l ++ mark).length = l.length + 3 := by simp [mark]
    obtain ⟨gi, ci, hin, hci, hgi, _⟩ := o2.get (by omega)
    rw [hlm] at hin hci
    subst hin
    obtain ⟨vn, sn, bn⟩ := o2.bs.h l.length (by omega) (l.length : Int) rfl
    rw [List.take_left] at bn
    have hgi2 : gi < w2.heap.size := o2.lt gi rfl
    have BN := hide bn
    clear C2 o2 b2 bn
    have C3 := hide ((unhide HK).sum l vn w2 ((unhide HK).keep _ _ (unhide HG) (unhide B2)) (unhide BN) (by omega))
    go_wp2_with fail
    refine (unhide C3).mono ?_
    rintro e w3 ⟨rfl, b3⟩
    have K3 := hide b3
    have B3 := hide ((unhide B2).trans (b3.mono (unhide B2).size))
    clear C3 b3
    by_cases hbig : 4194304 < l.length
    · have C4 := hide ((unhide HK).long l vn w3 ((unhide HK).keep _ _ (unhide HG) (unhide B3)) ((unhide BN).keep (unhide K3)) hbig (by omega))
      simp only [eL] at C4
      go_wp2_with fail
      refine (unhide C4).mono ?_
      rintro e w4 ⟨ra, rfl, o4, b4⟩
      have K4 := hide ((unhide K3).trans (b4.mono (unhide K3).size))
      have B4 := hide ((unhide B3).trans (b4.mono (unhide B3).size))
      have O4 := hide o4
      clear C4 o4 b4
      have C5 := hide ((unhide HK).long l vn w4 ((unhide HK).keep _ _ (unhide HG) (unhide B4)) ((unhide BN).keep (unhide K4)) hbig (by omega))
      simp only [eL] at C5
      go_wp2_with fail
      refine (unhide C5).mono ?_
      rintro e w5 ⟨rb, rfl, o5, b5⟩
      have K5 := hide ((unhide K4).trans (b5.mono (unhide K4).size))
      have B5 := hide ((unhide B4).trans (b5.mono (unhide B4).size))
      have O5 := hide o5
      have P5 := hide ((unhide O4).keep b5 (unhide O4).lt)
      have s45 := b5.size
      clear C5 o5 b5
      have C6 : Hid (Calls Tryd.prog 12 #[.slice oa l.length c] w5 fun e w' => ∃ r, e = .returned (.tuple #[r, .int .i64 2]) ∧ OB w' w5.heap.size r [] ∧ Below w5.heap.size w5 w') := (rwrap_long l _ w5 ((unhide HB).keep (unhide B5)) hbig).mono fun e w' q => ⟨_, q.1, OB.nil _ _, by rw [q.2]; exact Below.refl _ _⟩
      go_wp2_with fail
      refine (unhide C6).mono ?_
      rintro e w6 ⟨rr, rfl, o6, b6⟩
      have K6 := hide ((unhide K5).trans (b6.mono (unhide K5).size))
      have B6 := hide ((unhide B5).trans (b6.mono (unhide B5).size))
      have O6 := hide o6
      have P6 := hide ((unhide P5).keep b6 (unhide P5).lt)
      have Q6 := hide ((unhide O5).keep b6 (unhide O5).lt)
      have I6 := hide ((unhide O2).keep (unhide K6) (unhide O2).lt)
      have s56 := b6.size
      clear C6 o6 b6
      have C7 := hide (kept_any l (.slice (some ⟨gi, 0, none⟩) (l.length + 3) ci) (.slice oa l.length c) w6 (unhide I6).bs ((unhide HB).keep (unhide B6)) (by omega))
      have s23 := (unhide K3).size
      have s24 := (unhide K4).size
      have s26 := (unhide B6).size
      have hg3 : gi < w3.heap.size := by omega
      have s02 := (unhide B1).size
      go_wp2_with fail
      refine (unhide C7).mono ?_
      rintro e w7 ⟨rfl, rfl⟩
      clear C7
      go_wp2
      go_loopw [14] (fun iv wr => ∃ (i : Nat) (L : List UInt8), i ≤ l.length ∧ iv = .int .i64 (i : Int) ∧ L.length = l.length + 3 ∧ Hid (OB wr w.heap.size (.slice (some ⟨gi, 0, none⟩) (l.length + 3) ci) L) ∧ Hid (Upd gi w7 wr)) (fun iv _ => l.length - (intOf iv).toNat)
      case atStart => exact ⟨0, l ++ mark, by omega, rfl, hlm, unhide I6, Upd.refl _ _⟩
      case round =>
        obtain ⟨i, L, hi, rfl, hL, hO, hU⟩ := hrel
        by_cases hlt : i < l.length
        · have e1 : (i : Int) < (l.length : Int) := by omega
          have e0 : (0 : Int) ≤ (i : Int) := by omega
          have e3 : (i : Int) < (l.length : Int) + 3 := by omega
          have e4 : i < l.length + 3 := by omega
          obtain ⟨g', c', hv', _, _, hcells⟩ := (unhide hO).get (by omega)
          rw [hL] at hv'
          cases hv'
          obtain ⟨bb, hbb⟩ : ∃ b, L[i]? = some b := ⟨_, List.getElem?_eq_getElem (by omega)⟩
          have cell := hcells i bb hbb
          have frz := (unhide hO).frz i
          obtain ⟨xx, hxx⟩ := xor1 bb
          have O9 := hide ((unhide hO).set i xx)
          have U9 := hide ((unhide hU).trans (Upd.setCell gi i wr (vb xx)))
          simp only [vb] at O9 U9
          clear hcells hbb hO hU
          go_wp2
          exact ⟨⟨i + 1, L.set i xx, by omega, by go_num, by rw [List.length_set]; exact hL, O9, U9⟩, by simp [intOf]; omega⟩
        · have e1 : ¬ (i : Int) < (l.length : Int) := by omega
          have B9 := hide ((unhide B6).trans ((unhide hU).below (show w.heap.size ≤ gi by omega)))
          have far : ∀ (q : Nat), gi < q → wr.heap[q]? = w7.heap[q]? := fun q hq => (unhide hU).block q (by omega)
          have A9 := hide (show OB wr w.heap.size ra [] from OB.mono (B := w3.heap.size) (row_keep (unhide P6) (fun q hq => far q (by have := (unhide O4).ge q hq; omega))) (by omega))
          have Z9 := hide (show OB wr w.heap.size rb [] from OB.mono (B := w4.heap.size) (row_keep (unhide Q6) (fun q hq => far q (by have := (unhide O5).ge q hq; omega))) (by omega))
          have R9 := hide (show OB wr w.heap.size rr [] from OB.mono (B := w5.heap.size) (row_keep (unhide O6) (fun q hq => far q (by have := (unhide O6).ge q hq; omega))) (by omega))
          have C10 := hide (rsum_any l (.slice oa l.length c) wr ((unhide HB).keep (unhide B9)))
          have C11 := hide (equal_any [] [] ra rr wr (unhide A9).bs (unhide R9).bs)
          have C12 := hide (equal_any [] [] rb rr wr (unhide Z9).bs (unhide R9).bs)
          rw [decide_eq_true rfl] at C11 C12
          simp only [u32] at C10
          have LA := hide (fun q (hq : ra.ownBlock = some q) => (show q < w4.heap.size from (unhide O4).lt q hq))
          have GB := hide (fun q (hq : rb.ownBlock = some q) => (show w4.heap.size ≤ q from (unhide O5).ge q hq))
          have hne : (((crc l).toNat : Int) != ((crc l).toNat : Int)) = false := by simp
          clear P6 Q6 O6 O4 O5 P5 hO hU I6 far K3 K4 K5 K6 B2 B3 B4 B5 B6
          go_wp2_with fail
          refine (unhide C10).mono ?_
          rintro e w10 ⟨rfl, rfl⟩
          go_wp2_with fail
          refine (unhide C11).mono ?_
          rintro e w11 ⟨rfl, rfl⟩
          go_wp2_with fail
          refine (unhide C12).mono ?_
          rintro e w12 ⟨rfl, rfl⟩
          have C13 := hide (sameErr_long a w12)
          simp only [eL] at C13
          clear C10 C11 C12
          go_wp2_with fail
          refine (unhide C13).mono ?_
          rintro e w13 ⟨rfl, rfl⟩
          clear C13
          have sg := ((unhide HK).sent _ ((unhide HK).keep _ _ (unhide HG) (unhide B9))).n
          have heq := eql_same w13 a
          go_wp2
          go_ret
          exact ⟨rfl, unhide B9⟩
    · have hsm : l.length ≤ 4194304 := by omega
      have C4 := hide ((unhide HK).wrap l vn w3 ((unhide HK).keep _ _ (unhide HG) (unhide B3)) ((unhide BN).keep (unhide K3)) hsm)
      go_wp2_with fail
      refine (unhide C4).mono ?_
      rintro e w4 ⟨ra, rfl, o4, b4⟩
      have K4 := hide ((unhide K3).trans (b4.mono (unhide K3).size))
      have B4 := hide ((unhide B3).trans (b4.mono (unhide B3).size))
      have O4 := hide o4
      clear C4 o4 b4
      have C5 := hide ((unhide HK).wrap l vn w4 ((unhide HK).keep _ _ (unhide HG) (unhide B4)) ((unhide BN).keep (unhide K4)) hsm)
      go_wp2_with fail
      refine (unhide C5).mono ?_
      rintro e w5 ⟨rb, rfl, o5, b5⟩
      have K5 := hide ((unhide K4).trans (b5.mono (unhide K4).size))
      have B5 := hide ((unhide B4).trans (b5.mono (unhide B4).size))
      have O5 := hide o5
      have P5 := hide ((unhide O4).keep b5 (unhide O4).lt)
      have s45 := b5.size
      clear C5 o5 b5
      have C6 : Hid (Calls Tryd.prog 12 #[.slice oa l.length c] w5 fun e w' => ∃ r, e = .returned (.tuple #[r, .int .i64 0]) ∧ OB w' w5.heap.size r (frm l) ∧ Below w5.heap.size w5 w') := rwrap_any l _ w5 ((unhide HB).keep (unhide B5)) hsm
      go_wp2_with fail
      refine (unhide C6).mono ?_
      rintro e w6 ⟨rr, rfl, o6, b6⟩
      have K6 := hide ((unhide K5).trans (b6.mono (unhide K5).size))
      have B6 := hide ((unhide B5).trans (b6.mono (unhide B5).size))
      have O6 := hide o6
      have P6 := hide ((unhide P5).keep b6 (unhide P5).lt)
      have Q6 := hide ((unhide O5).keep b6 (unhide O5).lt)
      have I6 := hide ((unhide O2).keep (unhide K6) (unhide O2).lt)
      have s56 := b6.size
      clear C6 o6 b6
      have C7 := hide (kept_any l (.slice (some ⟨gi, 0, none⟩) (l.length + 3) ci) (.slice oa l.length c) w6 (unhide I6).bs ((unhide HB).keep (unhide B6)) (by omega))
      have s23 := (unhide K3).size
      have s24 := (unhide K4).size
      have s26 := (unhide B6).size
      have hg3 : gi < w3.heap.size := by omega
      have s02 := (unhide B1).size
      go_wp2_with fail
      refine (unhide C7).mono ?_
      rintro e w7 ⟨rfl, rfl⟩
      clear C7
      go_wp2
      go_loopw [14] (fun iv wr => ∃ (i : Nat) (L : List UInt8), i ≤ l.length ∧ iv = .int .i64 (i : Int) ∧ L.length = l.length + 3 ∧ Hid (OB wr w.heap.size (.slice (some ⟨gi, 0, none⟩) (l.length + 3) ci) L) ∧ Hid (Upd gi w7 wr)) (fun iv _ => l.length - (intOf iv).toNat)
      case atStart => exact ⟨0, l ++ mark, by omega, rfl, hlm, unhide I6, Upd.refl _ _⟩
      case round =>
        obtain ⟨i, L, hi, rfl, hL, hO, hU⟩ := hrel
        by_cases hlt : i < l.length
        · have e1 : (i : Int) < (l.length : Int) := by omega
          have e0 : (0 : Int) ≤ (i : Int) := by omega
          have e3 : (i : Int) < (l.length : Int) + 3 := by omega
          have e4 : i < l.length + 3 := by omega
          obtain ⟨g', c', hv', _, _, hcells⟩ := (unhide hO).get (by omega)
          rw [hL] at hv'
          cases hv'
          obtain ⟨bb, hbb⟩ : ∃ b, L[i]? = some b := ⟨_, List.getElem?_eq_getElem (by omega)⟩
          have cell := hcells i bb hbb
          have frz := (unhide hO).frz i
          obtain ⟨xx, hxx⟩ := xor1 bb
          have O9 := hide ((unhide hO).set i xx)
          have U9 := hide ((unhide hU).trans (Upd.setCell gi i wr (vb xx)))
          simp only [vb] at O9 U9
          clear hcells hbb hO hU
          go_wp2
          exact ⟨⟨i + 1, L.set i xx, by omega, by go_num, by rw [List.length_set]; exact hL, O9, U9⟩, by simp [intOf]; omega⟩
        · have e1 : ¬ (i : Int) < (l.length : Int) := by omega
          have B9 := hide ((unhide B6).trans ((unhide hU).below (show w.heap.size ≤ gi by omega)))
          have far : ∀ (q : Nat), gi < q → wr.heap[q]? = w7.heap[q]? := fun q hq => (unhide hU).block q (by omega)
          have A9 := hide (show OB wr w.heap.size ra (frm l) from OB.mono (B := w3.heap.size) (row_keep (unhide P6) (fun q hq => far q (by have := (unhide O4).ge q hq; omega))) (by omega))
          have Z9 := hide (show OB wr w.heap.size rb (frm l) from OB.mono (B := w4.heap.size) (row_keep (unhide Q6) (fun q hq => far q (by have := (unhide O5).ge q hq; omega))) (by omega))
          have R9 := hide (show OB wr w.heap.size rr (frm l) from OB.mono (B := w5.heap.size) (row_keep (unhide O6) (fun q hq => far q (by have := (unhide O6).ge q hq; omega))) (by omega))
          have C10 := hide (rsum_any l (.slice oa l.length c) wr ((unhide HB).keep (unhide B9)))
          have C11 := hide (equal_any (frm l) (frm l) ra rr wr (unhide A9).bs (unhide R9).bs)
          have C12 := hide (equal_any (frm l) (frm l) rb rr wr (unhide Z9).bs (unhide R9).bs)
          rw [decide_eq_true rfl] at C11 C12
          simp only [u32] at C10
          have LA := hide (fun q (hq : ra.ownBlock = some q) => (show q < w4.heap.size from (unhide O4).lt q hq))
          have GB := hide (fun q (hq : rb.ownBlock = some q) => (show w4.heap.size ≤ q from (unhide O5).ge q hq))
          have hne : (((crc l).toNat : Int) != ((crc l).toNat : Int)) = false := by simp
          clear P6 Q6 O6 O4 O5 P5 hO hU I6 far K3 K4 K5 K6 B2 B3 B4 B5 B6
          go_wp2_with fail
          refine (unhide C10).mono ?_
          rintro e w10 ⟨rfl, rfl⟩
          go_wp2_with fail
          refine (unhide C11).mono ?_
          rintro e w11 ⟨rfl, rfl⟩
          go_wp2_with fail
          refine (unhide C12).mono ?_
          rintro e w12 ⟨rfl, rfl⟩
          have C13 := hide (sameErr_nil w12)
          clear C10 C11 C12
          go_wp2_with fail
          refine (unhide C13).mono ?_
          rintro e w13 ⟨rfl, rfl⟩
          clear C13
          obtain ⟨oA, cA, hA⟩ := (unhide A9).form
          obtain ⟨oZ, cZ, hZ⟩ := (unhide Z9).form
          have kk := (Below.refl w13.heap.size w13).alloc (Nat.le_refl _) (.cells #[ra, rb] 22)
          have B14 := hide ((unhide B9).alloc (unhide B9).size (.cells #[ra, rb] 22))
          have C14 := hide (apart_any [frm l, frm l] [ra, rb] (some ⟨w13.heap.size, 0, none⟩) 2 w.heap.size (w13.alloc (.cells #[ra, rb] 22)) rfl (fun q => by cases q)
            (fun j x y hx hy => by
              match j, hx, hy with
              | 0, hx, hy => cases hx; cases hy; exact (unhide A9).keep kk (unhide A9).lt
              | 1, hx, hy => cases hx; cases hy; exact (unhide Z9).keep kk (unhide Z9).lt
              | j + 2, hx, _ => simp at hx)
            (fun i' j x y q hij hx hy hxq hyq => by
              match i', j, hx, hy with
              | 0, 0, _, _ => omega
              | 1, 1, _, _ => omega
              | 0, 1, hx, hy => cases hx; cases hy; have := unhide LA q hxq; have := unhide GB q hyq; omega
              | 1, 0, hx, hy => cases hx; cases hy; have := unhide LA q hyq; have := unhide GB q hxq; omega
              | i' + 2, _, hx, _ => simp at hx
              | 0, j + 2, _, hy => simp at hy
              | 1, j + 2, _, hy => simp at hy)
            (fun ad had j u hu => by
              cases had
              match j, hu with
              | 0, hu => cases hu; show World.cell? _ ⟨w13.heap.size, 0, none⟩ = _; rw [blk_cell (heap_alloc_new w13 _)]; rfl
              | 1, hu => cases hu; show World.cell? _ ⟨w13.heap.size, 0 + 1, none⟩ = _; rw [blk_cell (heap_alloc_new w13 _)]; rfl
              | j + 2, hu => simp at hu)
            (fun ad had j x q hx hq => by
              cases had
              match j, hx with
              | 0, hx => cases hx; have := (unhide A9).lt q hq; show w13.heap.size ≠ q; omega
              | 1, hx => cases hx; have := (unhide Z9).lt q hq; show w13.heap.size ≠ q; omega
              | j + 2, hx => simp at hx)
            (unhide B14).size (by simp) (fun y hy => by simp only [List.mem_cons, List.not_mem_nil, or_false] at hy; rcases hy with rfl | rfl <;> (rw [frm_length]; omega)))
          simp only [List.length_cons, List.length_nil, Nat.zero_add, Nat.reduceAdd] at C14
          rw [hA, hZ] at C14 B14
          subst hA hZ
          clear kk A9 Z9 R9 LA GB
          go_wp2_with fail
          refine (unhide C14).mono ?_
          rintro e w15 ⟨rfl, b15, _⟩
          have B15 := hide ((unhide B14).trans b15)
          clear C14 b15
          go_wp2
          go_ret
          exact ⟨rfl, unhide B15⟩

end Go.Proofs.YtgafjbgplcjnnaaDoor.fr
