/- The reference's Parse: its contract. -/
import Derived.Test.YtgmjllkkgapjcaaDoorRx
import Derived.Deep.Cut
namespace Go.Proofs.YtgmjllkkgapjcaaDoor.rd
open Go.RowKit

/-- What comes of a sign, digits and an exponent. -/
def rpRes (neg : Bool) (all : ByteArray) (ex : Int) : Dn × Int :=
  if (oneForm neg (digs all) ex).2 then ((oneForm neg (digs all) ex).1, 0) else (zed, 4)
/-- .. with the exponent that is read at a place, less the digits behind the point. -/
def rpEnd (s : ByteArray) (neg : Bool) (all : ByteArray) (k bh : Nat) : Dn × Int :=
  if (rex s k).2 then rpRes neg all ((rex s k).1 - bh) else (zed, 3)
/-- From the place of the first digit on. -/
def rpFrom (s : ByteArray) (neg : Bool) (i : Nat) : Dn × Int :=
  if nu.nd s i = 0 ∨ (nu.at_ s i = some 48 ∧ 1 < nu.nd s i) then (zed, 3)
  else if nu.at_ s (i + nu.nd s i) = some 46 then
    (if nu.nd s (i + nu.nd s i + 1) = 0 then (zed, 3)
     else rpEnd s neg (s.extract i (i + nu.nd s i) ++ s.extract (i + nu.nd s i + 1) (i + nu.nd s i + 1 + nu.nd s (i + nu.nd s i + 1))) (i + nu.nd s i + 1 + nu.nd s (i + nu.nd s i + 1)) (nu.nd s (i + nu.nd s i + 1)))
  else rpEnd s neg (s.extract i (i + nu.nd s i)) (i + nu.nd s i) 0
def rparse (s : ByteArray) : Dn × Int := if nu.at_ s 0 = some 45 then rpFrom s true 1 else rpFrom s false 0

theorem rexponent_at (s : ByteArray) (k : Nat) (w : World) (a : Int) (ha : a = (k : Int)) (hs : s.size ≤ 1099511627776) (hk : k ≤ s.size) :
    Calls Tryd.prog 37 #[.string s, .int .i64 a] w fun e w' => e = .returned (.tuple #[.int .i64 (rex s k).1, .bool (rex s k).2]) ∧ w' = w := by
  subst ha; exact rexponent_any s k w hs hk

theorem rexD_bd (s : ByteArray) (neg : Bool) (j : Nat) : -10000000000000 ≤ (rexD s neg j).1 ∧ (rexD s neg j).1 ≤ 10000000000000 := by
  have := rsize_bd ((s.data.toList.drop j).take (nu.nd s j)) (take_dig s j _ (Nat.le_refl _))
  unfold rexD
  split
  · simp
  · simp only
    split <;> omega
theorem rex_bd (s : ByteArray) (k : Nat) : -10000000000000 ≤ (rex s k).1 ∧ (rex s k).1 ≤ 10000000000000 := by
  unfold rex
  split
  · simp
  · split
    · split
      · split
        · exact rexD_bd _ _ _
        · split
          · exact rexD_bd _ _ _
          · exact rexD_bd _ _ _
      · exact rexD_bd _ _ _
    · simp

theorem rex_end (s : ByteArray) (k : Nat) (h : k = s.size) : rex s k = (0, true) := by unfold rex; rw [nu.at_none s k h]
theorem rpEnd_ok {s : ByteArray} {neg : Bool} {all : ByteArray} {k bh : Nat} {ex : Int} (h : rex s k = (ex, true)) : rpEnd s neg all k bh = rpRes neg all (ex - bh) := by
  unfold rpEnd; rw [h]; exact if_pos rfl
theorem rpEnd_no {s : ByteArray} {neg : Bool} {all : ByteArray} {k bh : Nat} {ex : Int} (h : rex s k = (ex, false)) : rpEnd s neg all k bh = (zed, 3) := by
  unfold rpEnd; rw [h]; exact if_neg Bool.false_ne_true
theorem rpRes_ok {neg : Bool} {all : ByteArray} {ex : Int} {d : Dn} (h : oneForm neg (digs all) ex = (d, true)) : rpRes neg all ex = (d, 0) := by
  unfold rpRes; rw [h]; exact if_pos rfl
theorem rpRes_no {neg : Bool} {all : ByteArray} {ex : Int} {d : Dn} (h : oneForm neg (digs all) ex = (d, false)) : rpRes neg all ex = (zed, 4) := by
  unfold rpRes; rw [h]; exact if_neg Bool.false_ne_true

theorem slice_at (u : World) (s : ByteArray) (a b : Int) (i j : Nat) (ha : a = (i : Int)) (hb : b = (j : Int)) (h1 : i ≤ j) (h2 : j ≤ s.size) :
    (Instr.slice 9 (.string s) (some (.int .i64 a)) (some (.int .i64 b)) none).run Tryd.prog u = .ok (.string (s.extract i j)) u := by
  subst ha hb
  rw [run_slice_string u 9 s .i64 .i64 i j Tryd.underlying9 (by omega) (by omega) (by omega)]
  rfl

theorem told_at (neg : Bool) (v : Value) (zs : List Int) (ex : Int) (w : World) (a : Int) (ha : a = ex) (hv : Ints w v zs) (hl : zs.length ≤ 1099511627776) (hd : Dig10 zs) (h0 : -9223372036854775808 ≤ ex) (h1 : ex ≤ 9223372036854775807) :
    Calls Tryd.prog 31 #[.bool neg, v, .int .i64 a] w fun e w' => e = .returned (.tuple #[dv (told neg zs ex).1, .bool (told neg zs ex).2]) ∧ Below w.heap.size w w' := by
  subst ha; exact told_any neg v zs a w hv hl hd h0 h1

theorem ret_rparse {m : Nat} (w : World) (d : Dn) (c : Int) (h : DLies w m d) (tmps : Array Value) (h2 : tmps.getD 2 undef = .pointer (some ⟨m, 0, none⟩)) (h3 : tmps.getD 3 undef = .int .i64 c) :
    (results Tryd.f14 tmps).run Tryd.prog w = .ok (.tuple #[dv d, .int .i64 c]) w := by
  obtain ⟨q0, q1, q2⟩ := h.cells
  rw [results_cell_tmp Tryd.results14, h2, h3]
  simp [go_sem, q0, q1, q2, dv]

theorem rp_start (s : ByteArray) : ∃ (ng : Bool) (i : Nat), decide (nu.at_ s 0 = some 45) = ng ∧ i = (if ng then 1 else 0) ∧ rparse s = rpFrom s ng i ∧ i ≤ s.size := by
  by_cases h : nu.at_ s 0 = some 45
  · refine ⟨true, 1, decide_eq_true h, rfl, by unfold rparse; rw [if_pos h], ?_⟩
    rcases Nat.lt_or_ge 0 s.size with h' | h'
    · exact h'
    · rw [nu.at_none s 0 (by omega)] at h; cases h
  · exact ⟨false, 0, decide_eq_false h, rfl, by unfold rparse; rw [if_neg h], Nat.zero_le _⟩

set_option maxRecDepth 100000 in
set_option maxHeartbeats 6400000 in
theorem rparse_any (s : ByteArray) (w : World) (hs0 : s.size ≤ 549755813888) :
    Calls Tryd.prog 14 #[.string s] w fun e w' => e = .returned (.tuple #[dv (rparse s).1, .int .i64 (rparse s).2]) ∧ Below w.heap.size w w' := by
  have hs : s.size ≤ 1099511627776 := by omega
  obtain ⟨ng, i, hng, hi, hfrom, hi0⟩ := rp_start s
  have HNG := hide hng
  have HI := hide hi
  have HFR := hide hfrom
  clear hng hi hfrom
  have c1 := hide (fun w => number_any s i w hs hi0)
  have hn1 := nu.nd_le s i hi0
  have HF : Hid (rparse s = if nu.nd s i = 0 ∨ (nu.at_ s i = some 48 ∧ 1 < nu.nd s i) then (zed, 3) else _) := HFR.out.trans (by unfold rpFrom; rfl)
  clear HFR
  generalize nu.nd s i = n at *
  have c2 := fun (h : i + n < s.size) => hide (fun w a ha => number_at s (i + n + 1) w a ha hs h)
  have hn2 := fun (h : i + n < s.size) => nu.nd_le s (i + n + 1) h
  generalize nu.nd s (i + n + 1) = b at *
  obtain ⟨bad, hbad⟩ : ∃ bad : Bool, decide (n = 0 ∨ (nu.at_ s i = some 48 ∧ 1 < n)) = bad := ⟨_, rfl⟩
  have HBAD := hide hbad
  clear hbad
  obtain ⟨pt, hpt⟩ : ∃ pt : Bool, decide (nu.at_ s (i + n) = some 46) = pt := ⟨_, rfl⟩
  have HPT := hide hpt
  clear hpt
  go_enter Tryd.func14, Tryd.ntmps14
  go_upto_region 2 with fail
  go_cut [5] from 14 (fun s5 wx => s5 = .bool ng ∧ wx = (w.alloc (.cells #[.bool false, .string ⟨#[]⟩, .int .i64 0] 23)))
  case first =>
    by_cases hz : 0 < s.size
    · have hat := nu.at_some s 0 hz
      by_cases h45 : s[0] = 45
      · have HB : Hid (ng = true) := by show _ = _; rw [← HNG.out, hat, h45]; rfl
        have t45 : (s[0].toNat : Int) = 45 := by rw [h45]; rfl
        clear h45 hat
        go_wp2_with fail
        go_meet
        exact ⟨by rw [HB.out], rfl⟩
      · have HB : Hid (ng = false) := by
          show _ = _; rw [← HNG.out, hat]; exact decide_eq_false (fun e => h45 (Option.some.inj e))
        have t45 : ((s[0].toNat : Int) == 45) = false := byte_neb (b := 45) h45
        clear h45 hat
        go_wp2_with fail
        go_meet
        exact ⟨by rw [HB.out], rfl⟩
    · have HB : Hid (ng = false) := by
        show _ = _; rw [← HNG.out, nu.at_none s 0 (by omega)]; rfl
      have hz' : (s.size : Int) ≤ 0 := by omega
      go_wp2_with fail
      go_meet
      exact ⟨by rw [HB.out], rfl⟩
  case rest =>
    obtain ⟨rfl, rfl⟩ := hcut
    clear HNG
    go_upto_if 22 with fail
    go_cut [4, 5] from 14 (fun s4 s5 wx => s4 = .int .i64 (i : Int) ∧ s5 = .bool ng ∧ wx = (w.alloc (.cells #[.bool false, .string ⟨#[]⟩, .int .i64 0] 23)))
    case first =>
      cases ng
      · go_wp2_with fail
        go_meet
        exact ⟨by rw [HI.out]; rfl, rfl, rfl⟩
      · go_wp2_with fail
        go_meet
        exact ⟨by rw [HI.out]; rfl, rfl, rfl⟩
    case rest =>
      obtain ⟨rfl, rfl, rfl⟩ := hcut
      clear HI
      go_upto_region 6 with (go_at_call 36; refine (unhide c1 _).mono ?_; rintro e w0 ⟨rfl, rfl⟩)
      go_cut [40] from 14 (fun s40 wx => s40 = .bool bad ∧ wx = (w.alloc (.cells #[.bool false, .string ⟨#[]⟩, .int .i64 0] 23)))
      case first =>
        by_cases hn0 : n = 0
        · have HB : Hid (bad = true) := by show _ = _; rw [← HBAD.out]; exact decide_eq_true (.inl hn0)
          subst hn0
          go_wp2_with fail
          go_meet
          exact ⟨by rw [HB.out], rfl⟩
        · have hbq : ((i : Int) + (n : Int) == (i : Int)) = false := by simp; omega
          have hix : i < s.size := by omega
          have hat := nu.at_some s i hix
          by_cases h48 : s[i] = 48
          · have t48 : (s[i].toNat : Int) = 48 := by rw [h48]; rfl
            by_cases hn2' : 1 < n
            · have HB : Hid (bad = true) := by show _ = _; rw [← HBAD.out]; exact decide_eq_true (.inr ⟨by rw [hat, h48], hn2'⟩)
              have hgt : (i : Int) + 1 < (i : Int) + (n : Int) := by omega
              clear h48 hat hn0
              go_wp2_with fail
              go_meet
              exact ⟨by rw [HB.out], rfl⟩
            · have HB : Hid (bad = false) := by show _ = _; rw [← HBAD.out]; exact decide_eq_false (fun h => by rcases h with h | h <;> omega)
              have hgt : (i : Int) + (n : Int) ≤ (i : Int) + 1 := by omega
              clear h48 hat hn0
              go_wp2_with fail
              go_meet
              exact ⟨by rw [HB.out]; congr 1; simp; omega, rfl⟩
          · have HB : Hid (bad = false) := by
              show _ = _; rw [← HBAD.out, hat]
              exact decide_eq_false (fun h => by
                rcases h with h | h
                · exact hn0 h
                · exact h48 (Option.some.inj h.1))
            have t48 : ((s[i].toNat : Int) == 48) = false := byte_neb (b := 48) h48
            clear h48 hat hn0
            go_wp2_with fail
            go_meet
            exact ⟨by rw [HB.out], rfl⟩
      case rest =>
        obtain ⟨rfl, rfl⟩ := hcut
        cases bad
        case true =>
          have HR : Hid (rparse s = (zed, 3)) := by show rparse s = _; rw [HF.out]; exact if_pos (of_decide_eq_true HBAD.out)
          clear HF
          go_wp2
          exact bodyPost_ret (ret_rparse _ zed 3 (dlies_new w zed) _ rfl rfl) rfl ⟨by rw [HR.out], (Below.refl _ _).alloc (Nat.le_refl _) _⟩
        case false =>
          have hnb := of_decide_eq_false HBAD.out
          have hn0 : 0 < n := by
            rcases Nat.eq_zero_or_pos n with h | h
            · exact absurd (.inl h) hnb
            · exact h
          have HF2 := hide (HF.out.trans (if_neg hnb))
          clear HF hnb HBAD c1
          have hsl1 : ∀ u : World, (Instr.slice 9 (.string s) (some (.int .i64 (i : Int))) (some (.int .i64 ((i : Int) + (n : Int)))) none).run Tryd.prog u = .ok (.string (s.extract i (i + n))) u := fun u => slice_at u s _ _ i (i + n) rfl (by omega) (by omega) hn1
          have hal := nu.ext_size s i (i + n)
          go_upto_region 10 with fail
          go_cut [55] from 14 (fun s55 wx => s55 = .bool pt ∧ wx = (w.alloc (.cells #[.bool false, .string ⟨#[]⟩, .int .i64 0] 23)))
          case first =>
            by_cases hlt : i + n < s.size
            · have hat := nu.at_some s (i + n) hlt
              by_cases h46 : s[i + n] = 46
              · have HB : Hid (pt = true) := by show _ = _; rw [← HPT.out]; exact decide_eq_true (by rw [hat, h46])
                have t46 : (s[i + n].toNat : Int) = 46 := by rw [h46]; rfl
                clear h46 hat
                go_wp2_with fail
                go_meet
                exact ⟨by rw [HB.out], rfl⟩
              · have HB : Hid (pt = false) := by show _ = _; rw [← HPT.out, hat]; exact decide_eq_false (fun e => h46 (Option.some.inj e))
                have t46 : ((s[i + n].toNat : Int) == 46) = false := byte_neb (b := 46) h46
                clear h46 hat
                go_wp2_with fail
                go_meet
                exact ⟨by rw [HB.out], rfl⟩
            · have HB : Hid (pt = false) := by show _ = _; rw [← HPT.out, nu.at_none s (i + n) (by omega)]; rfl
              have hend : (s.size : Int) ≤ (i : Int) + (n : Int) := by omega
              go_wp2_with fail
              go_meet
              exact ⟨by rw [HB.out], rfl⟩
          case rest =>
            obtain ⟨rfl, rfl⟩ := hcut
            go_upto_if 55 with fail
            go_cut [6, 7, 8] from 14 (fun s6 s7 s8 wx => ∃ (kk : Nat) (al : ByteArray) (bb : Nat), s6 = .int .i64 (kk : Int) ∧ s7 = .string al ∧ s8 = .int .i64 (bb : Int) ∧ Hid (rparse s = rpEnd s ng al kk bb) ∧ kk ≤ s.size ∧ al.size ≤ 1099511627776 ∧ bb ≤ s.size ∧ wx = (w.alloc (.cells #[.bool false, .string ⟨#[]⟩, .int .i64 0] 23)))
            case first =>
              cases pt
              case false =>
                have HE : Hid (rparse s = rpEnd s ng (s.extract i (i + n)) (i + n) 0) := HF2.out.trans (if_neg (of_decide_eq_false HPT.out))
                go_wp2_with fail
                go_meet
                exact ⟨i + n, _, 0, (by first | rfl | (congr 1; omega)), rfl, rfl, HE, hn1, by omega, by omega, rfl⟩
              case true =>
                have hpp := of_decide_eq_true HPT.out
                have hlt : i + n < s.size := by
                  rcases Nat.lt_or_ge (i + n) s.size with h' | h'
                  · exact h'
                  · rw [nu.at_none s (i + n) (by omega)] at hpp; cases hpp
                have HF3 := hide (HF2.out.trans (if_pos hpp))
                have hn3 := hn2 hlt
                have cc := c2 hlt
                clear hpp HF2 c2 hn2
                by_cases hb0 : b = 0
                · have HR : Hid (rparse s = (zed, 3)) := by show rparse s = _; rw [HF3.out]; exact if_pos hb0
                  subst hb0
                  clear HF3
                  go_wp2_with (go_at_call 36; refine (unhide cc _ _ (by omega)).mono ?_; rintro e w0 ⟨rfl, rfl⟩)
                  exact bodyPost_ret (ret_rparse _ zed 3 (dlies_new w zed) _ rfl rfl) rfl ⟨by rw [HR.out], (Below.refl _ _).alloc (Nat.le_refl _) _⟩
                · have HE := hide (HF3.out.trans (if_neg hb0))
                  have hbb : ((b : Int) == 0) = false := by simpa using hb0
                  have hb0' : 0 < b := by omega
                  clear HF3 hb0
                  have hsl2 : ∀ u : World, (Instr.slice 9 (.string s) (some (.int .i64 ((i : Int) + (n : Int) + 1))) (some (.int .i64 ((i : Int) + (n : Int) + 1 + (b : Int)))) none).run Tryd.prog u = .ok (.string (s.extract (i + n + 1) (i + n + 1 + b))) u := fun u => slice_at u s _ _ (i + n + 1) (i + n + 1 + b) (by omega) (by omega) (by omega) (by omega)
                  have hal2 := nu.ext_size s (i + n + 1) (i + n + 1 + b)
                  have hall : (s.extract i (i + n) ++ s.extract (i + n + 1) (i + n + 1 + b)).size = (s.extract i (i + n)).size + (s.extract (i + n + 1) (i + n + 1 + b)).size := ByteArray.size_append
                  have hcat : ∀ u : World, (Op.stringOp .add (s.extract i (i + n)) (s.extract (i + n + 1) (i + n + 1 + b))).run Tryd.prog u = .ok (.string (s.extract i (i + n) ++ s.extract (i + n + 1) (i + n + 1 + b))) u := fun u => run_string_add_sum u _ _ (by omega)
                  have HALL := hide (show (s.extract i (i + n) ++ s.extract (i + n + 1) (i + n + 1 + b)).size ≤ 1099511627776 by omega)
                  clear hall
                  go_wp2_with (go_at_call 36; refine (unhide cc _ _ (by omega)).mono ?_; rintro e w0 ⟨rfl, rfl⟩)
                  go_meet
                  exact ⟨i + n + 1 + b, _, b, (by first | rfl | (congr 1; omega)), rfl, (by first | rfl | (congr 1; omega)), HE, hn3, unhide HALL, by omega, rfl⟩
            case rest =>
              obtain ⟨kk, al, bb, rfl, rfl, rfl, HE, hkk, hals, hbbs, rfl⟩ := hcut
              clear HF2 c2 hn2 hsl1 hal hn1 hn0 HPT hi0
              have cx := hide (fun w => rexponent_any s kk w hs hkk)
              have hxb := rex_bd s kk
              generalize hrx : rex s kk = rx at *
              obtain ⟨ex, ok⟩ := rx
              have HRX := hide hrx
              clear hrx
              simp only at hxb cx
              cases ok
              case false =>
                have HR : Hid (rparse s = (zed, 3)) := HE.out.trans (rpEnd_no HRX.out)
                clear HE
                go_wp2_with (go_at_call 37; refine (unhide cx _).mono ?_; rintro e w1 ⟨rfl, rfl⟩)
                exact bodyPost_ret (ret_rparse _ zed 3 (dlies_new w zed) _ rfl rfl) rfl ⟨by rw [HR.out], (Below.refl _ _).alloc (Nat.le_refl _) _⟩
              case true =>
                have hE := HE.out.trans (rpEnd_ok HRX.out)
                have cd := hide (fun w => digits_any al w hals)
                have ct := fun v w a (ha : a = ex - (bb : Int)) (hv : Ints w v (cutN (dl al 0))) => told_at ng v (cutN (dl al 0)) (ex - (bb : Int)) w a ha hv (Nat.le_trans (dl_short _) hals) (dl_dig10 _) (by omega) (by omega)
                rw [norm_eq] at ct
                generalize ho : oneForm ng (digs al) (ex - (bb : Int)) = o at *
                generalize cutN (dl al 0) = zl at *
                obtain ⟨⟨rn, rg, rxx⟩, okk⟩ := o
                have HO := hide ho
                simp only [dv] at ct
                have CT := hide ct
                have HEE := hide hE
                clear ct hE ho HE HRX
                go_upto_region 21 with (first
                  | (go_at_call 37; refine (unhide cx _).mono ?_; rintro e w1 ⟨rfl, rfl⟩)
                  | (go_at_call 32; refine (unhide cd _).mono ?_; rintro e w2 ⟨v2, rfl, hI2, hb2⟩; have l2 : DLies w2 w.heap.size zed := (dlies_new w zed).below hb2 (by simp))
                  | (go_at_call 31; refine (unhide CT _ _ _ rfl hI2).mono ?_; rintro e w3 ⟨rfl, hb3⟩; have l3 : DLies w3 w.heap.size zed := l2.below hb3 (blk_lt l2); have z3 : w.heap.size < w3.heap.size := blk_lt l3; have hbb : Below w.heap.size w w3 := (((Below.refl _ _).alloc (Nat.le_refl _) _).trans (hb2.mono (by simp))).trans (hb3.mono (Nat.le_of_lt (blk_lt l2))); obtain ⟨q0, q1, q2⟩ := l3.cells; obtain ⟨f0, f1, f2⟩ := l3.frees; clear hb2 hb3 l2 hI2))
                cases okk
                · go_wp2
                  exact bodyPost_ret (ret_rparse _ zed 4 ((l3.set false ⟨#[]⟩ 0).alloc _) _ rfl rfl) rfl ⟨by rw [HEE.out, rpRes_no HO.out], below3a hbb (Nat.le_refl _) (by omega) _ _ _ _⟩
                · go_wp2
                  exact bodyPost_ret (ret_rparse _ ⟨rn, rg, rxx⟩ 0 ((l3.set rn rg rxx).alloc _) _ rfl rfl) rfl ⟨by rw [HEE.out, rpRes_ok HO.out], below3a hbb (Nat.le_refl _) (by omega) _ _ _ _⟩
end Go.Proofs.YtgmjllkkgapjcaaDoor.rd
