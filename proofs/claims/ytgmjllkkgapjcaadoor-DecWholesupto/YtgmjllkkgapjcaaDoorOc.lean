/- The contracts of the reference's cut, told and plus for slices that begin anywhere in their row. -/
import Derived.Test.YtgmjllkkgapjcaaDoorFe
import Derived.Test.YtgmjllkkgapjcaaDoorRl
namespace Go.Proofs.YtgmjllkkgapjcaaDoor.rd
open Go.RowKit

/-- A slice of ints that begins anywhere in its row. -/
def IntsO (w : World) (v : Value) (zs : List Int) : Prop :=
  (v = .slice none 0 0 ∧ zs = []) ∨ ∃ g o cap, v = .slice (some ⟨g, o, none⟩) zs.length cap ∧ zs.length ≤ cap ∧ cap ≤ 9223372036854775807 ∧ ∀ j, j < zs.length → w.cell? ⟨g, o + j, none⟩ = some (.int .i64 (zs.getD j 0))
theorem IntsO.keep {w w' : World} {v : Value} {zs : List Int} (h : IntsO w v zs) (hb : Below w.heap.size w w') : IntsO w' v zs := by
  rcases h with h | ⟨g, o, cap, h1, h2, h3, h4⟩
  · exact .inl h
  · exact .inr ⟨g, o, cap, h1, h2, h3, fun j hj => keepC hb (h4 j hj)⟩
theorem Ints.any {w : World} {v : Value} {zs : List Int} (h : Ints w v zs) : IntsO w v zs := by
  rcases h with h | ⟨g, cap, h1, h2, h3, h4⟩
  · exact .inl h
  · exact .inr ⟨g, 0, cap, h1, h2, h3, fun j hj => by rw [Nat.zero_add]; exact h4 j hj⟩
theorem IntsO.form {w : World} {v : Value} {zs : List Int} (h : IntsO w v zs) : ∃ o cap, v = .slice o zs.length cap ∧ zs.length ≤ cap ∧ cap ≤ 9223372036854775807 ∧ ∀ j, j < zs.length → ∃ g b, o = some ⟨g, b, none⟩ ∧ w.cell? ⟨g, b + j, none⟩ = some (.int .i64 (zs.getD j 0)) := by
  rcases h with ⟨rfl, rfl⟩ | ⟨g, b, cap, rfl, h1, h2, h3⟩
  · exact ⟨none, 0, rfl, Nat.le_refl _, by omega, fun j hj => by simp at hj⟩
  · exact ⟨_, cap, rfl, h1, h2, fun j hj => ⟨g, b, rfl, h3 j hj⟩⟩

set_option maxRecDepth 100000 in
set_option maxHeartbeats 800000 in
theorem cut_off (g o cap : Nat) (zs : List Int) (w : World) (hlc : zs.length ≤ cap) (hcm : cap ≤ 9223372036854775807) (hc : ∀ j, j < zs.length → w.cell? ⟨g, o + j, none⟩ = some (.int .i64 (zs.getD j 0))) :
    Calls Tryd.prog 52 #[.slice (some ⟨g, o, none⟩) zs.length cap] w fun e w' => e = .returned (.slice (some ⟨g, o, none⟩) (cutN zs).length cap) ∧ w' = w := by
  have HC := hide hc
  clear hc
  go_enter Tryd.func52, Tryd.ntmps52
  go_wp2
  go_loop [3] (fun i => ∃ k : Nat, k ≤ zs.length ∧ i = .int .i64 k ∧ cutN (zs.take k) = cutN zs) (fun i => (intOf i).toNat)
  case atStart => exact ⟨zs.length, Nat.le_refl _, rfl, by rw [List.take_length]⟩
  case round =>
    obtain ⟨k, hk, rfl, hcut⟩ := hrel
    have HK := hide hcut
    clear hcut
    cases k with
    | zero =>
      have e : (cutN zs).length = 0 := by rw [← HK.out]; rfl
      have HE := hide e
      clear e
      go_wp2
      go_ret
      refine ⟨?_, rfl⟩
      rw [HE.out]
      rfl
    | succ j =>
      have hcell := unhide HC j (by omega)
      have hj : j < zs.length := by omega
      by_cases hz : zs.getD j 0 = 0
      · have HZ : Hid (cutN (zs.take j) = cutN zs) := by
          show cutN _ = _
          rw [← HK.out, take_getD zs j hj, cutN_zero _ _ hz]
        rw [hz] at hcell
        clear hz
        go_wp2
        go_round
        case rel => exact ⟨j, by omega, by go_num, HZ.out⟩
        case measure => simp [intOf]
      · have e : (cutN zs).length = j + 1 := by
          rw [← HK.out, take_getD zs j hj, cutN_other _ _ hz]
          simp; omega
        have HE := hide e
        have hz' : (zs.getD j 0 == 0) = false := by simpa using hz
        clear e hz
        generalize zs.getD j 0 = z at *
        go_wp2
        go_ret
        refine ⟨?_, rfl⟩
        rw [HE.out]
        rfl

set_option maxRecDepth 100000 in
set_option maxHeartbeats 3200000 in
theorem told_off (neg : Bool) (g o cap : Nat) (zs : List Int) (ex : Int) (w : World) (hlc : zs.length ≤ cap) (hcm : cap ≤ 9223372036854775807) (hl : zs.length ≤ 1099511627776)
    (hc : ∀ j, j < zs.length → w.cell? ⟨g, o + j, none⟩ = some (.int .i64 (zs.getD j 0))) (hd : Dig10 zs) (h0 : -9223372036854775808 ≤ ex) (h1 : ex ≤ 9223372036854775807) :
    Calls Tryd.prog 31 #[.bool neg, .slice (some ⟨g, o, none⟩) zs.length cap, .int .i64 ex] w fun e w' => e = .returned (.tuple #[dv (told neg zs ex).1, .bool (told neg zs ex).2]) ∧ Below w.heap.size w w' := by
  have hlen := cutN_len zs
  have hlast := cutN_last zs
  have hcu : ∀ j, j < (cutN zs).length → w.cell? ⟨g, o + j, none⟩ = some (.int .i64 ((cutN zs).getD j 0)) := fun j hj => by
    rw [hc j (by omega), cutN_getD _ _ hj]
  have hdu : ∀ j, j < (cutN zs).length → 0 ≤ (cutN zs).getD j 0 ∧ (cutN zs).getD j 0 ≤ 9 := fun j hj => by
    rw [cutN_getD _ _ hj]; exact hd.at j (by omega)
  have HT : Hid (told neg zs ex = if cutN zs = [] then (zed, true)
      else if ex < -9999 - lowN (cutN zs) ∨ 9999 - lowN (cutN zs) < ex then (zed, false)
      else (⟨neg, ⟨(tb (cutN zs) (lowN (cutN zs))).toArray⟩, ex + lowN (cutN zs)⟩, true)) := rfl
  generalize told neg zs ex = res at HT ⊢
  have cc := fun w h => cut_off g o cap zs w hlc hcm h
  generalize cutN zs = us at *
  have CC := hide cc
  have HC := hide hc
  have HCU := hide hcu
  have HDU := hide hdu
  have HL := hide hlast
  clear cc hc hcu hdu hlast hd
  by_cases hu : us = []
  · have hr : res = (zed, true) := by rw [HT.out, if_pos hu]
    subst hr
    have hz : us.length = 0 := by rw [hu]; rfl
    clear HT hu
    go_enter Tryd.func31, Tryd.ntmps31
    go_wp2_with fail
    refine (unhide CC _ (fun j hj => by rw [World.cell?_alloc_past _ _ _ (cell_lt (unhide HC j hj))]; exact unhide HC j hj)).mono ?_
    rintro e w1 ⟨rfl, rfl⟩
    have hz' : ((us.length : Int) == 0) = true := by simp [hz]
    go_wp2
    exact bodyPost_ret (ret_told _ zed true (dlies_new w zed) _ rfl rfl) rfl ⟨rfl, (Below.refl _ _).alloc (Nat.le_refl _) _⟩
  · have hpos : 0 < us.length := List.length_pos_iff.2 hu
    have hlst := unhide HL hu
    have hr : res = if ex < -9999 - (lowN us : Int) ∨ 9999 - (lowN us : Int) < ex then (zed, false) else (⟨neg, ⟨(tb us (lowN us)).toArray⟩, ex + lowN us⟩, true) := by rw [HT.out, if_neg hu]
    have HR := hide hr
    have HLS := hide hlst
    clear hr HT hlst HL
    have hne : ((us.length : Int) == 0) = false := by simp; omega
    clear hu
    go_enter Tryd.func31, Tryd.ntmps31
    go_wp2_with fail
    refine (unhide CC _ (fun j hj => by rw [World.cell?_alloc_past _ _ _ (cell_lt (unhide HC j hj))]; exact unhide HC j hj)).mono ?_
    rintro e w1 ⟨rfl, rfl⟩
    have HCW : Hid (∀ j, j < us.length → (w.alloc (.cells #[.bool false, .string ⟨#[]⟩, .int .i64 0] 23)).cell? ⟨g, o + j, none⟩ = some (.int .i64 (us.getD j 0))) := fun j hj => by
      rw [World.cell?_alloc_past _ _ _ (cell_lt (unhide HCU j hj))]; exact unhide HCU j hj
    go_wp2
    go_loop [9] (fun i => ∃ k : Nat, k < us.length ∧ i = .int .i64 k ∧ ∀ j, j < k → us.getD j 0 = 0) (fun i => us.length - (intOf i).toNat)
    case atStart => exact ⟨0, hpos, rfl, fun j hj => by omega⟩
    case round =>
      obtain ⟨k, hk, rfl, hall⟩ := hrel
      have HA := hide hall
      clear hall
      have hcell := unhide HCW k hk
      by_cases hz : us.getD k 0 = 0
      · have hk1 : k + 1 < us.length := by
          rcases Nat.lt_or_ge (k + 1) us.length with h' | h'
          · exact h'
          · exfalso
            have : us.length - 1 = k := by omega
            have h2 := unhide HLS
            rw [this] at h2
            exact h2 hz
        rw [hz] at hcell
        have HZ := hide hz
        clear hz
        go_wp2
        go_round
        case rel => exact ⟨k + 1, hk1, by go_num, fun j hj => by
          rcases Nat.lt_or_ge j k with h' | h'
          · exact unhide HA j h'
          · rw [show j = k by omega]; exact unhide HZ⟩
        case measure => simp [intOf]; omega
      · have hlow := lowN_eq us k (unhide HA) hz
        have hz' : (us.getD k 0 == 0) = false := by simpa using hz
        have HRk : Hid (res = if ex < -9999 - (k : Int) ∨ 9999 - (k : Int) < ex then (zed, false) else (⟨neg, ⟨(tb us k).toArray⟩, ex + k⟩, true)) := by
          show res = _
          rw [unhide HR, hlow]
        clear hz hlow HR
        have HCell := hide hcell
        generalize hzz : us.getD k 0 = zk at hcell hz'
        clear HCell hzz
        by_cases hb1 : ex < -9999 - (k : Int)
        · have hr : res = (zed, false) := by rw [HRk.out, if_pos (.inl hb1)]
          have HRR := hide hr
          clear hr
          go_wp2
          exact bodyPost_ret (ret_told _ zed false (dlies_new w zed) _ rfl rfl) rfl ⟨by rw [HRR.out], (Below.refl _ _).alloc (Nat.le_refl _) _⟩
        · by_cases hb2 : 9999 - (k : Int) < ex
          · have hr : res = (zed, false) := by rw [HRk.out, if_pos (.inr hb2)]
            have HRR := hide hr
            clear hr
            go_wp2
            exact bodyPost_ret (ret_told _ zed false (dlies_new w zed) _ rfl rfl) rfl ⟨by rw [HRR.out], (Below.refl _ _).alloc (Nat.le_refl _) _⟩
          · have hr : res = (⟨neg, ⟨(tb us k).toArray⟩, ex + k⟩, true) := by rw [HRk.out, if_neg (by omega)]
            have HRR := hide hr
            clear hr HRk
            obtain ⟨i0, hi, hz0, hz1, hz2⟩ := info_parts info5
            have hlu : us.length ≤ 1099511627776 := by omega
            go_wp2
            go_loopw [10, 11] (fun v i wr => ∃ m : Nat, k ≤ m ∧ m ≤ us.length ∧ i = .int .i64 ((m : Int) - 1) ∧ wr.ownsRow (w.heap.size + 1) 5 1 v (tb us m).length ((tb us m).map vb) ∧ Below (w.heap.size + 1) (w.alloc (.cells #[.bool false, .string ⟨#[]⟩, .int .i64 0] 23)) wr)
              (fun _ i _ => (intOf i + 1 - k).toNat)
            case atStart => exact ⟨us.length, by omega, Nat.le_refl _, rfl, by rw [tb_end]; exact World.ownsRow_nil _ _ _ _, Below.refl _ _⟩
            case round =>
              obtain ⟨m, hkm, hmu, rfl, hown, hbel⟩ := hrel
              by_cases hmk : m = k
              · subst hmk
                have hcv := conv_own hown rfl
                have l1 : DLies wr w.heap.size zed := (hbel.block _ (by omega)).trans (dlies_new w zed)
                obtain ⟨q0, q1, q2⟩ := l1.cells
                obtain ⟨f0, f1, f2⟩ := l1.frees
                have hbb : Below w.heap.size w wr := ((Below.refl _ _).alloc (Nat.le_refl _) _).trans (hbel.mono (by omega))
                have hge : ¬ ((m : Int) ≤ (m : Int) - 1) := by omega
                clear hown hbel
                generalize (⟨(tb us m).toArray⟩ : ByteArray) = bs at *
                go_wp2
                exact bodyPost_ret (ret_told _ _ true (l1.set neg bs _) _ rfl rfl) rfl ⟨by rw [HRR.out], below3 hbb (Nat.le_refl _) _ _ _⟩
              · obtain ⟨j, rfl⟩ : ∃ j, m = j + 1 := ⟨m - 1, by omega⟩
                have hju : j < us.length := by omega
                have hcell : wr.cell? ⟨g, o + j, none⟩ = some (.int .i64 (us.getD j 0)) := by
                  rw [hbel.cell (by show g < _; have := cell_lt (unhide HCU j hju); omega)]; exact unhide HCW j hju
                obtain ⟨z1, z2⟩ := unhide HDU j hju
                have HTB := hide (tb_step us j hju)
                have htl := tb_len us (j + 1)
                have HB0 := hide (toB_nat _ z1 z2)
                generalize us.getD j 0 = z at *
                rw [show ((j + 1 : Nat) : Int) - 1 = (j : Int) by omega]
                have HTL := hide htl
                have htl2 : (tb us (j + 1)).length ≤ 1099511627776 := by omega
                clear htl
                go_wp2_with (at_builtin; refine wpList_append_own _ rfl _ _ 76 rfl (w.heap.size + 1) 5 i0 (.int .u8 0) 1 1 Tryd.underlying76 hi hz0 hz1 hz2 rfl (by decide) _ _ _ rfl (hown.alloc _) ⟨wr.heap.size, 0, none⟩ 1 1 [.int .u8 (48 + z)] rfl rfl ?c1 ?c2 ?c3 ?c4 ?c5 ?_)
                case c1 =>
                  intro i u hi
                  match i, hi with
                  | 0, hi => simp at hi; subst hi; simp [Addr.add]
                case c2 => intro u hu; simp at hu; subst hu; rfl
                case c3 => unfold maxLen; omega
                case c4 => omega
                case c5 => have := hbel.size; simp at this ⊢; omega
                intro v' w1 hown1 hgrow1 _
                go_wp2
                go_roundw
                case rel =>
                  have e : (tb us j).length = (tb us (j + 1)).length + 1 := by rw [HTB.out]; simp
                  have e2 : (tb us j).map vb = (tb us (j + 1)).map vb ++ [.int .u8 (48 + z)] := by rw [HTB.out]; simp [vb, unhide HB0]
                  have hsz := hbel.size
                  simp at hsz
                  exact ⟨j, by omega, by omega, by go_num, by rw [e, e2]; exact hown1, (hbel.alloc (by omega) _).grown hgrow1 (by simp; omega) (own_ge hown)⟩
                case measure => simp [intOf]; omega

set_option maxRecDepth 100000 in
set_option maxHeartbeats 3200000 in
theorem plus_off (v1 v2 : Value) (xs ys : List Int) (w : World) (hv1 : IntsO w v1 xs) (hv2 : Ints w v2 ys) (hx : Dig10 xs) (hy : Dig10 ys) (hlx : xs.length ≤ 2199023255552) (hly : ys.length ≤ 2199023255552) :
    Calls Tryd.prog 51 #[v1, v2] w fun e w' => ∃ v zs, e = .returned v ∧ Ints w' v zs ∧ Dig10 zs ∧ valL zs = valL xs + valL ys ∧ zs.length ≤ max xs.length ys.length + 1 ∧ Below w.heap.size w w' := by
  obtain ⟨i0, hi, hz0, hz1, hz2⟩ := info_parts info3
  obtain ⟨o1, c1, rfl, l1, m1, f1⟩ := hv1.form
  obtain ⟨o2, c2, rfl, l2, m2, f2⟩ := hv2.form
  have F1 := hide f1
  have F2 := hide f2
  have GX := hide (fun n => getD_bd hx n)
  have GY := hide (fun n => getD_bd hy n)
  clear f1 f2 hv1 hv2 hx hy
  go_enter Tryd.func51, Tryd.ntmps51
  go_wp2
  go_loopw [5, 6, 7] (fun v c i wr => ∃ (n : Nat) (b : Int) (l : List Int), i = .int .i64 (n : Int) ∧ c = .int .i64 b ∧ 0 ≤ b ∧ b ≤ 1 ∧ l.length = n ∧ Dig10 l ∧ (n ≤ max xs.length ys.length ∨ (n = max xs.length ys.length + 1 ∧ b = 0)) ∧
      valL l + 10 ^ n * (b + valL (xs.drop n) + valL (ys.drop n)) = valL xs + valL ys ∧ wr.ownsRow w.heap.size 3 1 v n (l.map iv) ∧ Below w.heap.size w wr)
    (fun _ _ i _ => max xs.length ys.length + 2 - (intOf i).toNat)
  case atStart => exact ⟨0, 0, [], rfl, rfl, by omega, by omega, rfl, fun z hz => by simp at hz, by omega, by simp [valL], World.ownsRow_nil _ _ _ _, Below.refl _ _⟩
  case round =>
    obtain ⟨n, b, l, rfl, rfl, hb0, hb1, hl, hdl, hor, hval, hown, hbel⟩ := hrel
    obtain ⟨gx0, gx1⟩ := unhide GX n
    obtain ⟨gy0, gy1⟩ := unhide GY n
    have hround := plus_round l xs ys n b _ hl hval
    have hsz := hbel.size
    by_cases hA : n < xs.length
    · obtain ⟨g1, off1, rfl, q1⟩ := unhide F1 n hA
      have p1 := keepC hbel q1
      have hA' : (n : Int) < (xs.length : Int) := by omega
      by_cases hB : n < ys.length
      · obtain ⟨g2, rfl, q2⟩ := unhide F2 n hB
        have p2 := keepC hbel q2
        have hB' : (n : Int) < (ys.length : Int) := by omega
        generalize xs.getD n 0 = a at *
        generalize ys.getD n 0 = d at *
        clear q1 q2
        have HR := hide hround
        have HD := hide hdl
        have HL := hide hl
        have hn : n ≤ 2199023255552 := by omega
        clear hround hval hdl hl
        go_wp2_with (at_builtin; refine wpList_append_own _ rfl _ _ 49 rfl w.heap.size 3 i0 (.int .i64 0) 1 8 Tryd.underlying49 hi hz0 hz1 hz2 rfl (by decide) _ _ _ rfl (hown.alloc _) ⟨wr.heap.size, 0, none⟩ 1 1 [iv ((b + a + d) % 10)] rfl rfl ?c1 ?c2 ?c3 ?c4 ?c5 ?_)
        case c1 =>
          intro i u hi
          match i, hi with
          | 0, hi => simp at hi; subst hi; first | (simp [iv]; done) | (simp [Addr.add, iv]; done)
        case c2 => first | (intro u hu; simp at hu; subst hu; rfl) | rfl
        case c3 => unfold maxLen; omega
        case c4 => omega
        case c5 => first | omega | (simp; omega)
        intro v' w1 hown1 hgrow1 _
        go_wp2
        go_roundw
        case rel =>
          refine ⟨n + 1, (b + a + d) / 10, l ++ [(b + a + d) % 10], by go_num, rfl, by omega, by omega, by rw [List.length_append, unhide HL]; rfl, (unhide HD).snoc (by omega) (by omega), by omega, unhide HR, own_snoc hown1, (hbel.alloc hsz _).grown hgrow1 (by simp; omega) (own_ge hown)⟩
        case measure => simp [intOf]; omega
      · have hB' : ¬ (n : Int) < (ys.length : Int) := by omega
        rw [getD_past ys n (by omega)] at hround
        simp only [Int.add_zero] at hround
        generalize xs.getD n 0 = a at *
        clear q1 gy0 gy1
        have HR := hide hround
        have HD := hide hdl
        have HL := hide hl
        have hn : n ≤ 2199023255552 := by omega
        clear hround hval hdl hl
        go_wp2_with (at_builtin; refine wpList_append_own _ rfl _ _ 49 rfl w.heap.size 3 i0 (.int .i64 0) 1 8 Tryd.underlying49 hi hz0 hz1 hz2 rfl (by decide) _ _ _ rfl (hown.alloc _) ⟨wr.heap.size, 0, none⟩ 1 1 [iv ((b + a) % 10)] rfl rfl ?c1 ?c2 ?c3 ?c4 ?c5 ?_)
        case c1 =>
          intro i u hi
          match i, hi with
          | 0, hi => simp at hi; subst hi; first | (simp [iv]; done) | (simp [Addr.add, iv]; done)
        case c2 => first | (intro u hu; simp at hu; subst hu; rfl) | rfl
        case c3 => unfold maxLen; omega
        case c4 => omega
        case c5 => first | omega | (simp; omega)
        intro v' w1 hown1 hgrow1 _
        go_wp2
        go_roundw
        case rel =>
          refine ⟨n + 1, (b + a) / 10, l ++ [(b + a) % 10], by go_num, rfl, by omega, by omega, by rw [List.length_append, unhide HL]; rfl, (unhide HD).snoc (by omega) (by omega), by omega, unhide HR, own_snoc hown1, (hbel.alloc hsz _).grown hgrow1 (by simp; omega) (own_ge hown)⟩
        case measure => simp [intOf]; omega
    · have hA' : ¬ (n : Int) < (xs.length : Int) := by omega
      rw [getD_past xs n (by omega)] at hround
      simp only [Int.add_zero] at hround
      by_cases hB : n < ys.length
      · obtain ⟨g2, rfl, q2⟩ := unhide F2 n hB
        have p2 := keepC hbel q2
        have hB' : (n : Int) < (ys.length : Int) := by omega
        generalize ys.getD n 0 = d at *
        clear q2 gx0 gx1
        have HR := hide hround
        have HD := hide hdl
        have HL := hide hl
        have hn : n ≤ 2199023255552 := by omega
        clear hround hval hdl hl
        go_wp2_with (at_builtin; refine wpList_append_own _ rfl _ _ 49 rfl w.heap.size 3 i0 (.int .i64 0) 1 8 Tryd.underlying49 hi hz0 hz1 hz2 rfl (by decide) _ _ _ rfl (hown.alloc _) ⟨wr.heap.size, 0, none⟩ 1 1 [iv ((b + d) % 10)] rfl rfl ?c1 ?c2 ?c3 ?c4 ?c5 ?_)
        case c1 =>
          intro i u hi
          match i, hi with
          | 0, hi => simp at hi; subst hi; first | (simp [iv]; done) | (simp [Addr.add, iv]; done)
        case c2 => first | (intro u hu; simp at hu; subst hu; rfl) | rfl
        case c3 => unfold maxLen; omega
        case c4 => omega
        case c5 => first | omega | (simp; omega)
        intro v' w1 hown1 hgrow1 _
        go_wp2
        go_roundw
        case rel =>
          refine ⟨n + 1, (b + d) / 10, l ++ [(b + d) % 10], by go_num, rfl, by omega, by omega, by rw [List.length_append, unhide HL]; rfl, (unhide HD).snoc (by omega) (by omega), by omega, unhide HR, own_snoc hown1, (hbel.alloc hsz _).grown hgrow1 (by simp; omega) (own_ge hown)⟩
        case measure => simp [intOf]; omega
      · have hB' : ¬ (n : Int) < (ys.length : Int) := by omega
        rw [getD_past ys n (by omega)] at hround
        simp only [Int.add_zero] at hround
        clear gx0 gx1 gy0 gy1
        by_cases hC : 0 < b
        · skip
          have HR := hide hround
          have HD := hide hdl
          have HL := hide hl
          have hn : n ≤ 2199023255552 := by omega
          clear hround hval hdl hl
          go_wp2_with (at_builtin; refine wpList_append_own _ rfl _ _ 49 rfl w.heap.size 3 i0 (.int .i64 0) 1 8 Tryd.underlying49 hi hz0 hz1 hz2 rfl (by decide) _ _ _ rfl (hown.alloc _) ⟨wr.heap.size, 0, none⟩ 1 1 [iv ((b) % 10)] rfl rfl ?c1 ?c2 ?c3 ?c4 ?c5 ?_)
          case c1 =>
            intro i u hi
            match i, hi with
            | 0, hi => simp at hi; subst hi; first | (simp [iv]; done) | (simp [Addr.add, iv]; done)
          case c2 => first | (intro u hu; simp at hu; subst hu; rfl) | rfl
          case c3 => unfold maxLen; omega
          case c4 => omega
          case c5 => first | omega | (simp; omega)
          intro v' w1 hown1 hgrow1 _
          go_wp2
          go_roundw
          case rel =>
            refine ⟨n + 1, (b) / 10, l ++ [(b) % 10], by go_num, rfl, by omega, by omega, by rw [List.length_append, unhide HL]; rfl, (unhide HD).snoc (by omega) (by omega), by omega, unhide HR, own_snoc hown1, (hbel.alloc hsz _).grown hgrow1 (by simp; omega) (own_ge hown)⟩
          case measure => simp [intOf]; omega
        · have hb : b = 0 := by omega
          subst hb
          rw [List.drop_eq_nil_of_le (by omega), List.drop_eq_nil_of_le (by omega)] at hval
          have HV : Hid (valL l = valL xs + valL ys) := by
            show valL l = _
            simp only [valL] at hval
            rw [← hval]
            omega
          have HD := hide hdl
          have HL := hide hl
          clear hround hval hdl
          go_wp2
          go_ret
          refine ⟨_, rfl, l, ?_, unhide HD, unhide HV, by omega, hbel⟩
          apply ints_of_own (B := w.heap.size)
          rw [unhide HL]
          exact hown

theorem cut_anyO (v : Value) (zs : List Int) (w : World) (hv : IntsO w v zs) :
    Calls Tryd.prog 52 #[v] w fun e w' => ∃ u, e = .returned u ∧ IntsO w u (cutN zs) ∧ w' = w := by
  rcases hv with ⟨rfl, rfl⟩ | ⟨g, o, cap, rfl, h1, h2, h3⟩
  · exact (cut_nil w).mono fun e w' ⟨he, hw⟩ => ⟨_, he, .inl ⟨rfl, rfl⟩, hw⟩
  · refine (cut_off g o cap zs w h1 h2 h3).mono fun e w' ⟨he, hw⟩ => ⟨_, he, .inr ⟨g, o, cap, rfl, Nat.le_trans (cutN_len _) h1, h2, fun j hj => ?_⟩, hw⟩
    rw [h3 j (Nat.lt_of_lt_of_le hj (cutN_len _)), cutN_getD _ _ hj]
theorem told_anyO (neg : Bool) (v : Value) (zs : List Int) (ex : Int) (w : World) (hv : IntsO w v zs) (hl : zs.length ≤ 1099511627776) (hd : Dig10 zs) (h0 : -9223372036854775808 ≤ ex) (h1 : ex ≤ 9223372036854775807) :
    Calls Tryd.prog 31 #[.bool neg, v, .int .i64 ex] w fun e w' => e = .returned (.tuple #[dv (told neg zs ex).1, .bool (told neg zs ex).2]) ∧ Below w.heap.size w w' := by
  rcases hv with ⟨rfl, rfl⟩ | ⟨g, o, cap, rfl, k1, k2, k3⟩
  · exact told_nil neg ex w
  · exact told_off neg g o cap zs ex w k1 k2 hl k3 hd h0 h1
end Go.Proofs.YtgmjllkkgapjcaaDoor.rd
