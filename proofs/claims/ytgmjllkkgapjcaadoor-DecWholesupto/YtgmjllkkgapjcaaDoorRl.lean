/- The contracts of the reference's plus and minus. -/
import Derived.Test.YtgmjllkkgapjcaaDoorVa
import Derived.Test.YtgmjllkkgapjcaaDoorSz
namespace Go.Proofs.YtgmjllkkgapjcaaDoor.rd
open Go.RowKit

theorem drop_val (l : List Int) (n : Nat) : valL (l.drop n) = l.getD n 0 + 10 * valL (l.drop (n + 1)) := by
  rcases Nat.lt_or_ge n l.length with h | h
  · rw [List.drop_eq_getElem_cons h]; simp [valL, h]
  · rw [List.drop_eq_nil_of_le h, List.drop_eq_nil_of_le (by omega)]
    simp [valL, h]
theorem getD_past (l : List Int) (n : Nat) (h : l.length ≤ n) : l.getD n 0 = 0 := by simp [h]
theorem getD_bd {l : List Int} (hd : Dig10 l) (n : Nat) : 0 ≤ l.getD n 0 ∧ l.getD n 0 ≤ 9 := by
  rcases Nat.lt_or_ge n l.length with h | h
  · exact hd.at n h
  · rw [getD_past l n h]; omega
theorem Dig10.drop {l : List Int} (hd : Dig10 l) (n : Nat) : Dig10 (l.drop n) := fun z hz => hd z (List.mem_of_mem_drop hz)
theorem valL_snoc (l : List Int) (z : Int) : valL (l ++ [z]) = valL l + 10 ^ l.length * z := by rw [valL_append]; simp [valL]
theorem Dig10.snoc {l : List Int} (hd : Dig10 l) {z : Int} (h0 : 0 ≤ z) (h1 : z ≤ 9) : Dig10 (l ++ [z]) := hd.app (fun y hy => by simp at hy; subst hy; exact ⟨h0, h1⟩)

/-- One round of adding, in numbers. -/
theorem plus_round (l xs ys : List Int) (n : Nat) (c S : Int) (hl : l.length = n) (h : valL l + 10 ^ n * (c + valL (xs.drop n) + valL (ys.drop n)) = S) :
    valL (l ++ [(c + xs.getD n 0 + ys.getD n 0) % 10]) + 10 ^ (n + 1) * ((c + xs.getD n 0 + ys.getD n 0) / 10 + valL (xs.drop (n + 1)) + valL (ys.drop (n + 1))) = S := by
  rw [valL_snoc, hl]
  rw [drop_val xs n, drop_val ys n] at h
  have hd : (c + xs.getD n 0 + ys.getD n 0) % 10 + 10 * ((c + xs.getD n 0 + ys.getD n 0) / 10) = c + xs.getD n 0 + ys.getD n 0 := by omega
  generalize (c + xs.getD n 0 + ys.getD n 0) % 10 = r at *
  generalize (c + xs.getD n 0 + ys.getD n 0) / 10 = d at *
  rw [← h]
  grind

theorem own_snoc {w : World} {B : Nat} {v : Value} {n : Nat} {l : List Int} {z : Int} (h : w.ownsRow B 3 1 v (n + 1) (l.map iv ++ [iv z])) : w.ownsRow B 3 1 v (n + 1) ((l ++ [z]).map iv) := by
  rw [List.map_append]; exact h

set_option maxRecDepth 100000 in
set_option maxHeartbeats 3200000 in
theorem plus_any (v1 v2 : Value) (xs ys : List Int) (w : World) (hv1 : Ints w v1 xs) (hv2 : Ints w v2 ys) (hx : Dig10 xs) (hy : Dig10 ys) (hlx : xs.length ≤ 2199023255552) (hly : ys.length ≤ 2199023255552) :
    Calls Tryd.prog 51 #[v1, v2] w fun e w' => ∃ v zs, e = .returned v ∧ Ints w' v zs ∧ Dig10 zs ∧ valL zs = valL xs + valL ys ∧ zs.length ≤ max xs.length ys.length + 1 ∧ Below w.heap.size w w' := by
  obtain ⟨i0, hi, hz0, hz1, hz2⟩ := info_parts info3
  obtain ⟨o1, c1, rfl, l1, m1, f1⟩ := hv1.form
  obtain ⟨o2, c2, rfl, l2, m2, f2⟩ := hv2.form
  have F1 := hide f1
  have F2 := hide f2
  have GX := hide (fun n => getD_bd hx n)
  have GY := hide (fun n => getD_bd hy n)
  clear f1 f2 hv1 hv2 hx hy
  go_enter Tryd.func51, Tryd.ntmps51
  go_wp2
  go_loopw [5, 6, 7] (fun v c i wr => ∃ (n : Nat) (b : Int) (l : List Int), i = .int .i64 (n : Int) ∧ c = .int .i64 b ∧ 0 ≤ b ∧ b ≤ 1 ∧ l.length = n ∧ Dig10 l ∧ (n ≤ max xs.length ys.length ∨ (n = max xs.length ys.length + 1 ∧ b = 0)) ∧
      valL l + 10 ^ n * (b + valL (xs.drop n) + valL (ys.drop n)) = valL xs + valL ys ∧ wr.ownsRow w.heap.size 3 1 v n (l.map iv) ∧ Below w.heap.size w wr)
    (fun _ _ i _ => max xs.length ys.length + 2 - (intOf i).toNat)
  case atStart => exact ⟨0, 0, [], rfl, rfl, by omega, by omega, rfl, fun z hz => by simp at hz, by omega, by simp [valL], World.ownsRow_nil _ _ _ _, Below.refl _ _⟩
  case round =>
    obtain ⟨n, b, l, rfl, rfl, hb0, hb1, hl, hdl, hor, hval, hown, hbel⟩ := hrel
    obtain ⟨gx0, gx1⟩ := unhide GX n
    obtain ⟨gy0, gy1⟩ := unhide GY n
    have hround := plus_round l xs ys n b _ hl hval
    have hsz := hbel.size
    by_cases hA : n < xs.length
    · obtain ⟨g1, rfl, q1⟩ := unhide F1 n hA
      have p1 := keepC hbel q1
      have hA' : (n : Int) < (xs.length : Int) := by omega
      by_cases hB : n < ys.length
      · obtain ⟨g2, rfl, q2⟩ := unhide F2 n hB
        have p2 := keepC hbel q2
        have hB' : (n : Int) < (ys.length : Int) := by omega
        generalize xs.getD n 0 = a at *
        generalize ys.getD n 0 = d at *
        clear q1 q2
        have HR := hide hround
        have HD := hide hdl
        have HL := hide hl
        have hn : n ≤ 2199023255552 := by omega
        clear hround hval hdl hl
        go_wp2_with (at_builtin; refine wpList_append_own _ rfl _ _ 49 rfl w.heap.size 3 i0 (.int .i64 0) 1 8 Tryd.underlying49 hi hz0 hz1 hz2 rfl (by decide) _ _ _ rfl (hown.alloc _) ⟨wr.heap.size, 0, none⟩ 1 1 [iv ((b + a + d) % 10)] rfl rfl ?c1 ?c2 ?c3 ?c4 ?c5 ?_)
        case c1 =>
          intro i u hi
          match i, hi with
          | 0, hi => simp at hi; subst hi; first | (simp [iv]; done) | (simp [Addr.add, iv]; done)
        case c2 => first | (intro u hu; simp at hu; subst hu; rfl) | rfl
        case c3 => unfold maxLen; omega
        case c4 => omega
        case c5 => first | omega | (simp; omega)
        intro v' w1 hown1 hgrow1 _
        go_wp2
        go_roundw
        case rel =>
          refine ⟨n + 1, (b + a + d) / 10, l ++ [(b + a + d) % 10], by go_num, rfl, by omega, by omega, by rw [List.length_append, unhide HL]; rfl, (unhide HD).snoc (by omega) (by omega), by omega, unhide HR, own_snoc hown1, (hbel.alloc hsz _).grown hgrow1 (by simp; omega) (own_ge hown)⟩
        case measure => simp [intOf]; omega
      · have hB' : ¬ (n : Int) < (ys.length : Int) := by omega
        rw [getD_past ys n (by omega)] at hround
        simp only [Int.add_zero] at hround
        generalize xs.getD n 0 = a at *
        clear q1 gy0 gy1
        have HR := hide hround
        have HD := hide hdl
        have HL := hide hl
        have hn : n ≤ 2199023255552 := by omega
        clear hround hval hdl hl
        go_wp2_with (at_builtin; refine wpList_append_own _ rfl _ _ 49 rfl w.heap.size 3 i0 (.int .i64 0) 1 8 Tryd.underlying49 hi hz0 hz1 hz2 rfl (by decide) _ _ _ rfl (hown.alloc _) ⟨wr.heap.size, 0, none⟩ 1 1 [iv ((b + a) % 10)] rfl rfl ?c1 ?c2 ?c3 ?c4 ?c5 ?_)
        case c1 =>
          intro i u hi
          match i, hi with
          | 0, hi => simp at hi; subst hi; first | (simp [iv]; done) | (simp [Addr.add, iv]; done)
        case c2 => first | (intro u hu; simp at hu; subst hu; rfl) | rfl
        case c3 => unfold maxLen; omega
        case c4 => omega
        case c5 => first | omega | (simp; omega)
        intro v' w1 hown1 hgrow1 _
        go_wp2
        go_roundw
        case rel =>
          refine ⟨n + 1, (b + a) / 10, l ++ [(b + a) % 10], by go_num, rfl, by omega, by omega, by rw [List.length_append, unhide HL]; rfl, (unhide HD).snoc (by omega) (by omega), by omega, unhide HR, own_snoc hown1, (hbel.alloc hsz _).grown hgrow1 (by simp; omega) (own_ge hown)⟩
        case measure => simp [intOf]; omega
    · have hA' : ¬ (n : Int) < (xs.length : Int) := by omega
      rw [getD_past xs n (by omega)] at hround
      simp only [Int.add_zero] at hround
      by_cases hB : n < ys.length
      · obtain ⟨g2, rfl, q2⟩ := unhide F2 n hB
        have p2 := keepC hbel q2
        have hB' : (n : Int) < (ys.length : Int) := by omega
        generalize ys.getD n 0 = d at *
        clear q2 gx0 gx1
        have HR := hide hround
        have HD := hide hdl
        have HL := hide hl
        have hn : n ≤ 2199023255552 := by omega
        clear hround hval hdl hl
        go_wp2_with (at_builtin; refine wpList_append_own _ rfl _ _ 49 rfl w.heap.size 3 i0 (.int .i64 0) 1 8 Tryd.underlying49 hi hz0 hz1 hz2 rfl (by decide) _ _ _ rfl (hown.alloc _) ⟨wr.heap.size, 0, none⟩ 1 1 [iv ((b + d) % 10)] rfl rfl ?c1 ?c2 ?c3 ?c4 ?c5 ?_)
        case c1 =>
          intro i u hi
          match i, hi with
          | 0, hi => simp at hi; subst hi; first | (simp [iv]; done) | (simp [Addr.add, iv]; done)
        case c2 => first | (intro u hu; simp at hu; subst hu; rfl) | rfl
        case c3 => unfold maxLen; omega
        case c4 => omega
        case c5 => first | omega | (simp; omega)
        intro v' w1 hown1 hgrow1 _
        go_wp2
        go_roundw
        case rel =>
          refine ⟨n + 1, (b + d) / 10, l ++ [(b + d) % 10], by go_num, rfl, by omega, by omega, by rw [List.length_append, unhide HL]; rfl, (unhide HD).snoc (by omega) (by omega), by omega, unhide HR, own_snoc hown1, (hbel.alloc hsz _).grown hgrow1 (by simp; omega) (own_ge hown)⟩
        case measure => simp [intOf]; omega
      · have hB' : ¬ (n : Int) < (ys.length : Int) := by omega
        rw [getD_past ys n (by omega)] at hround
        simp only [Int.add_zero] at hround
        clear gx0 gx1 gy0 gy1
        by_cases hC : 0 < b
        · skip
          have HR := hide hround
          have HD := hide hdl
          have HL := hide hl
          have hn : n ≤ 2199023255552 := by omega
          clear hround hval hdl hl
          go_wp2_with (at_builtin; refine wpList_append_own _ rfl _ _ 49 rfl w.heap.size 3 i0 (.int .i64 0) 1 8 Tryd.underlying49 hi hz0 hz1 hz2 rfl (by decide) _ _ _ rfl (hown.alloc _) ⟨wr.heap.size, 0, none⟩ 1 1 [iv ((b) % 10)] rfl rfl ?c1 ?c2 ?c3 ?c4 ?c5 ?_)
          case c1 =>
            intro i u hi
            match i, hi with
            | 0, hi => simp at hi; subst hi; first | (simp [iv]; done) | (simp [Addr.add, iv]; done)
          case c2 => first | (intro u hu; simp at hu; subst hu; rfl) | rfl
          case c3 => unfold maxLen; omega
          case c4 => omega
          case c5 => first | omega | (simp; omega)
          intro v' w1 hown1 hgrow1 _
          go_wp2
          go_roundw
          case rel =>
            refine ⟨n + 1, (b) / 10, l ++ [(b) % 10], by go_num, rfl, by omega, by omega, by rw [List.length_append, unhide HL]; rfl, (unhide HD).snoc (by omega) (by omega), by omega, unhide HR, own_snoc hown1, (hbel.alloc hsz _).grown hgrow1 (by simp; omega) (own_ge hown)⟩
          case measure => simp [intOf]; omega
        · have hb : b = 0 := by omega
          subst hb
          rw [List.drop_eq_nil_of_le (by omega), List.drop_eq_nil_of_le (by omega)] at hval
          have HV : Hid (valL l = valL xs + valL ys) := by
            show valL l = _
            simp only [valL] at hval
            rw [← hval]
            omega
          have HD := hide hdl
          have HL := hide hl
          clear hround hval hdl
          go_wp2
          go_ret
          refine ⟨_, rfl, l, ?_, unhide HD, unhide HV, by omega, hbel⟩
          apply ints_of_own (B := w.heap.size)
          rw [unhide HL]
          exact hown

/-- One round of taking away, in numbers. -/
theorem minus_round (l xs ys : List Int) (n : Nat) (c S t c' : Int) (hl : l.length = n) (h : valL l + 10 ^ n * (valL (xs.drop n) - valL (ys.drop n) - c) = S) (ht : t - 10 * c' = xs.getD n 0 - c - ys.getD n 0) :
    valL (l ++ [t]) + 10 ^ (n + 1) * (valL (xs.drop (n + 1)) - valL (ys.drop (n + 1)) - c') = S := by
  rw [valL_snoc, hl]
  rw [drop_val xs n, drop_val ys n] at h
  rw [← h]
  generalize xs.getD n 0 = a at *
  generalize ys.getD n 0 = d at *
  grind

set_option maxRecDepth 100000 in
set_option maxHeartbeats 3200000 in
theorem minus_any (v1 v2 : Value) (xs ys : List Int) (w : World) (hv1 : Ints w v1 xs) (hv2 : Ints w v2 ys) (hx : Dig10 xs) (hy : Dig10 ys) (hlx : xs.length ≤ 2199023255552) (hle : valL ys ≤ valL xs) :
    Calls Tryd.prog 58 #[v1, v2] w fun e w' => ∃ v zs, e = .returned v ∧ Ints w' v zs ∧ Dig10 zs ∧ valL zs = valL xs - valL ys ∧ zs.length = xs.length ∧ Below w.heap.size w w' := by
  obtain ⟨i0, hi, hz0, hz1, hz2⟩ := info_parts info3
  obtain ⟨o1, c1, rfl, l1, m1, f1⟩ := hv1.form
  obtain ⟨o2, c2, rfl, l2, m2, f2⟩ := hv2.form
  have F1 := hide f1
  have F2 := hide f2
  have GX := hide (fun n => getD_bd hx n)
  have GY := hide (fun n => getD_bd hy n)
  have HY := hide hy
  have HLE := hide hle
  clear f1 f2 hv1 hv2 hx hy hle
  go_enter Tryd.func58, Tryd.ntmps58
  go_wp2
  go_loopw [5, 6, 7] (fun v c i wr => ∃ (n : Nat) (b : Int) (l : List Int), i = .int .i64 (n : Int) ∧ c = .int .i64 b ∧ 0 ≤ b ∧ b ≤ 1 ∧ l.length = n ∧ Dig10 l ∧ n ≤ xs.length ∧
      valL l + 10 ^ n * (valL (xs.drop n) - valL (ys.drop n) - b) = valL xs - valL ys ∧ wr.ownsRow w.heap.size 3 1 v n (l.map iv) ∧ Below w.heap.size w wr)
    (fun _ _ i _ => xs.length - (intOf i).toNat)
  case atStart => exact ⟨0, 0, [], rfl, rfl, by omega, by omega, rfl, fun z hz => by simp at hz, by omega, by simp [valL], World.ownsRow_nil _ _ _ _, Below.refl _ _⟩
  case round =>
    obtain ⟨n, b, l, rfl, rfl, hb0, hb1, hl, hdl, hnx, hval, hown, hbel⟩ := hrel
    obtain ⟨gx0, gx1⟩ := unhide GX n
    obtain ⟨gy0, gy1⟩ := unhide GY n
    have hsz := hbel.size
    by_cases hA : n < xs.length
    · obtain ⟨g1, rfl, q1⟩ := unhide F1 n hA
      have p1 := keepC hbel q1
      have hA' : (n : Int) < (xs.length : Int) := by omega
      have MR := hide (fun t c' ht => minus_round l xs ys n b _ t c' hl hval ht)
      by_cases hB : n < ys.length
      · obtain ⟨g2, rfl, q2⟩ := unhide F2 n hB
        have p2 := keepC hbel q2
        have hB' : (n : Int) < (ys.length : Int) := by omega
        generalize xs.getD n 0 = a at *
        generalize ys.getD n 0 = d at *
        clear q1 q2
        by_cases hT : a - b - d < 0
        · have hround := unhide MR (a - b - d + 10) 1 (by omega)
          have HR := hide hround
          have HD := hide hdl
          have HL := hide hl
          have hn : n ≤ 2199023255552 := by omega
          clear hround hval hdl hl MR
          go_wp2_with (at_builtin; refine wpList_append_own _ rfl _ _ 49 rfl w.heap.size 3 i0 (.int .i64 0) 1 8 Tryd.underlying49 hi hz0 hz1 hz2 rfl (by decide) _ _ _ rfl (hown.alloc _) ⟨wr.heap.size, 0, none⟩ 1 1 [iv (a - b - d + 10)] rfl rfl ?c1 ?c2 ?c3 ?c4 ?c5 ?_)
          case c1 =>
            intro i u hi
            match i, hi with
            | 0, hi => simp at hi; subst hi; first | (simp [iv]; done) | (simp [Addr.add, iv]; done)
          case c2 => first | (intro u hu; simp at hu; subst hu; rfl) | rfl
          case c3 => unfold maxLen; omega
          case c4 => omega
          case c5 => first | omega | (simp; omega)
          intro v' w1 hown1 hgrow1 _
          go_wp2
          go_roundw
          case rel =>
            refine ⟨n + 1, 1, l ++ [a - b - d + 10], by go_num, rfl, by omega, by omega, by rw [List.length_append, unhide HL]; rfl, (unhide HD).snoc (by omega) (by omega), by omega, unhide HR, own_snoc hown1, (hbel.alloc hsz _).grown hgrow1 (by simp; omega) (own_ge hown)⟩
          case measure => simp [intOf]; omega
        · have hround := unhide MR (a - b - d) 0 (by omega)
          have HR := hide hround
          have HD := hide hdl
          have HL := hide hl
          have hn : n ≤ 2199023255552 := by omega
          clear hround hval hdl hl MR
          go_wp2_with (at_builtin; refine wpList_append_own _ rfl _ _ 49 rfl w.heap.size 3 i0 (.int .i64 0) 1 8 Tryd.underlying49 hi hz0 hz1 hz2 rfl (by decide) _ _ _ rfl (hown.alloc _) ⟨wr.heap.size, 0, none⟩ 1 1 [iv (a - b - d)] rfl rfl ?c1 ?c2 ?c3 ?c4 ?c5 ?_)
          case c1 =>
            intro i u hi
            match i, hi with
            | 0, hi => simp at hi; subst hi; first | (simp [iv]; done) | (simp [Addr.add, iv]; done)
          case c2 => first | (intro u hu; simp at hu; subst hu; rfl) | rfl
          case c3 => unfold maxLen; omega
          case c4 => omega
          case c5 => first | omega | (simp; omega)
          intro v' w1 hown1 hgrow1 _
          go_wp2
          go_roundw
          case rel =>
            refine ⟨n + 1, 0, l ++ [a - b - d], by go_num, rfl, by omega, by omega, by rw [List.length_append, unhide HL]; rfl, (unhide HD).snoc (by omega) (by omega), by omega, unhide HR, own_snoc hown1, (hbel.alloc hsz _).grown hgrow1 (by simp; omega) (own_ge hown)⟩
          case measure => simp [intOf]; omega
      · have hB' : ¬ (n : Int) < (ys.length : Int) := by omega
        rw [getD_past ys n (by omega)] at MR
        generalize xs.getD n 0 = a at *
        clear q1 gy0 gy1
        by_cases hT : a - b < 0
        · have hround := unhide MR (a - b + 10) 1 (by omega)
          have HR := hide hround
          have HD := hide hdl
          have HL := hide hl
          have hn : n ≤ 2199023255552 := by omega
          clear hround hval hdl hl MR
          go_wp2_with (at_builtin; refine wpList_append_own _ rfl _ _ 49 rfl w.heap.size 3 i0 (.int .i64 0) 1 8 Tryd.underlying49 hi hz0 hz1 hz2 rfl (by decide) _ _ _ rfl (hown.alloc _) ⟨wr.heap.size, 0, none⟩ 1 1 [iv (a - b + 10)] rfl rfl ?c1 ?c2 ?c3 ?c4 ?c5 ?_)
          case c1 =>
            intro i u hi
            match i, hi with
            | 0, hi => simp at hi; subst hi; first | (simp [iv]; done) | (simp [Addr.add, iv]; done)
          case c2 => first | (intro u hu; simp at hu; subst hu; rfl) | rfl
          case c3 => unfold maxLen; omega
          case c4 => omega
          case c5 => first | omega | (simp; omega)
          intro v' w1 hown1 hgrow1 _
          go_wp2
          go_roundw
          case rel =>
            refine ⟨n + 1, 1, l ++ [a - b + 10], by go_num, rfl, by omega, by omega, by rw [List.length_append, unhide HL]; rfl, (unhide HD).snoc (by omega) (by omega), by omega, unhide HR, own_snoc hown1, (hbel.alloc hsz _).grown hgrow1 (by simp; omega) (own_ge hown)⟩
          case measure => simp [intOf]; omega
        · have hround := unhide MR (a - b) 0 (by omega)
          have HR := hide hround
          have HD := hide hdl
          have HL := hide hl
          have hn : n ≤ 2199023255552 := by omega
          clear hround hval hdl hl MR
          go_wp2_with (at_builtin; refine wpList_append_own _ rfl _ _ 49 rfl w.heap.size 3 i0 (.int .i64 0) 1 8 Tryd.underlying49 hi hz0 hz1 hz2 rfl (by decide) _ _ _ rfl (hown.alloc _) ⟨wr.heap.size, 0, none⟩ 1 1 [iv (a - b)] rfl rfl ?c1 ?c2 ?c3 ?c4 ?c5 ?_)
          case c1 =>
            intro i u hi
            match i, hi with
            | 0, hi => simp at hi; subst hi; first | (simp [iv]; done) | (simp [Addr.add, iv]; done)
          case c2 => first | (intro u hu; simp at hu; subst hu; rfl) | rfl
          case c3 => unfold maxLen; omega
          case c4 => omega
          case c5 => first | omega | (simp; omega)
          intro v' w1 hown1 hgrow1 _
          go_wp2
          go_roundw
          case rel =>
            refine ⟨n + 1, 0, l ++ [a - b], by go_num, rfl, by omega, by omega, by rw [List.length_append, unhide HL]; rfl, (unhide HD).snoc (by omega) (by omega), by omega, unhide HR, own_snoc hown1, (hbel.alloc hsz _).grown hgrow1 (by simp; omega) (own_ge hown)⟩
          case measure => simp [intOf]; omega
    · have hA' : ¬ (n : Int) < (xs.length : Int) := by omega
      have hn : n = xs.length := by omega
      have HV : Hid (valL l = valL xs - valL ys) := by
        show valL l = _
        rw [List.drop_eq_nil_of_le (by omega)] at hval
        have h0 := valL_lt hdl
        have h1 := valL_nonneg ((unhide HY).drop n)
        have h2 := unhide HLE
        rw [hl] at h0
        simp only [valL] at hval
        have h3 : (0 : Int) < 10 ^ n := Int.pow_pos (by omega)
        have h4 : valL (ys.drop n) + b = 0 := by
          rcases Int.lt_or_le 0 (valL (ys.drop n) + b) with h | h
          · exfalso
            have h5 : 10 ^ n * 1 ≤ 10 ^ n * (valL (ys.drop n) + b) := Int.mul_le_mul_of_nonneg_left (by omega) (by omega)
            have h6 : 10 ^ n * (0 - valL (ys.drop n) - b) = - (10 ^ n * (valL (ys.drop n) + b)) := by grind
            omega
          · omega
        have h6 : 10 ^ n * (0 - valL (ys.drop n) - b) = - (10 ^ n * (valL (ys.drop n) + b)) := by grind
        rw [h6, h4] at hval
        omega
      have HD := hide hdl
      have HL := hide hl
      clear hval hdl
      go_wp2
      go_ret
      refine ⟨_, rfl, l, ?_, unhide HD, unhide HV, by rw [unhide HL, hn], hbel⟩
      apply ints_of_own (B := w.heap.size)
      rw [unhide HL]
      exact hown
end Go.Proofs.YtgmjllkkgapjcaaDoor.rd
