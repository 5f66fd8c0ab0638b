/- The reference of package stamp: Text. -/
import Derived.Test.YtemcilikchlaiaaDoorKm
import Derived.Deep.Cut
namespace Go.Proofs.YtemcilikchlaiaaDoor.st
open Go.RowKit

theorem digs_zero (w n : Nat) (h : ∀ c ∈ digs w n, c = 48) : n % 10 ^ w = 0 := by
  induction w generalizing n with
  | zero => simp; omega
  | succ w ih =>
    unfold digs at h
    have h1 := ih (n / 10) (fun c hc => h c (List.mem_append_left _ hc))
    have h2 := h (UInt8.ofNat (48 + n % 10)) (List.mem_append_right _ (List.mem_singleton.2 rfl))
    have h3 := byte_of (n % 10) (by omega)
    rw [h2] at h3
    have h4 : n % 10 = 0 := by
      have : ((48 : UInt8).toNat : Int) = 48 := rfl
      omega
    rw [Nat.pow_succ, Nat.mul_comm, Nat.mod_mul, h1, h4]
theorem digs_some (n : Nat) (h0 : 0 < n) (h1 : n < 1000000000) : ∃ c ∈ digs 9 n, c ≠ 48 := by
  refine Classical.byContradiction fun hh => ?_
  have h := digs_zero 9 n (fun c hc => Classical.byContradiction fun q => hh ⟨c, hc, q⟩)
  have : (10 : Nat) ^ 9 = 1000000000 := by decide
  rw [this] at h
  omega
theorem cut0_48 (l : List UInt8) : cut0 (l ++ [48]) = cut0 l := by
  unfold cut0
  rw [List.reverse_append]
  rfl
theorem cut0_no (l : List UInt8) (c : UInt8) (h : c ≠ 48) : cut0 (l ++ [c]) = l ++ [c] := by
  unfold cut0
  rw [List.reverse_append]
  have : (c == 48) = false := by rw [beq_eq_false_iff_ne]; exact h
  simp [this]
theorem last_of (f : ByteArray) (h : 0 < f.size) : f.data.toList = (f.extract 0 (f.size - 1)).data.toList ++ [f[f.size - 1]] := by
  have e : (f.extract 0 (f.size - 1)).data.toList = f.data.toList.take (f.size - 1) := by
    simp [List.dropLast_eq_take]
  rw [e]
  have hl : f.data.toList.length = f.size := Array.length_toList
  have h2 : f.size - 1 < f.data.toList.length := by omega
  have h3 : f[f.size - 1] = f.data.toList[f.size - 1] := rfl
  rw [h3, List.take_append_getElem h2, List.take_of_length_le (by omega)]

set_option maxRecDepth 100000 in
set_option maxHeartbeats 3200000 in
theorem rtext_out (s n : Int) (w : World) (hs0 : -9223372036854775808 ≤ s) (hs1 : s ≤ 9223372036854775807) (hn0 : -9223372036854775808 ≤ n) (hn1 : n ≤ 9223372036854775807)
    (hout : nSec s n < -62167219200 ∨ 253402300799 < nSec s n) :
    Calls Tryd.prog 16 #[iv s n] w fun e w' => e = .returned (.tuple #[.string ⟨#[]⟩, .int .i64 13]) ∧ Below w.heap.size w w' := by
  have N1 := hide (fun u => rnorm_any s n u hs0 hs1 hn0 hn1)
  generalize nSec s n = a at *
  generalize nNano s n = b at *
  have HB := hide ((Below.refl w.heap.size w).alloc (Nat.le_refl _) (.cells #[.int .i64 s, .int .i64 n] 24))
  simp only [iv] at N1 ⊢
  clear hs0 hs1 hn0 hn1
  go_enter Tryd.func16, Tryd.ntmps16
  go_wp2_with fail
  refine (unhide N1 _).mono ?_
  rintro e w1 ⟨rfl, hb1⟩
  have HB1 := hide ((unhide HB).trans (hb1.mono (by simp)))
  have hz1 := hb1.size
  simp only [World.size_alloc] at hz1
  obtain ⟨p0, p1⟩ := (IL.new w1 a b).cells
  have HB2 := hide ((unhide HB1).alloc (by omega) (.cells #[.int .i64 a, .int .i64 b] 24))
  clear hb1 HB HB1 N1
  by_cases c1 : a < -62167219200
  · clear hout
    go_wp2
    go_ret2
    exact ⟨rfl, unhide HB2⟩
  · have c2 : 253402300799 < a := by omega
    have c1' : decide (a < -62167219200) = false := decide_eq_false c1
    clear hout c1
    go_wp2
    go_ret2
    exact ⟨rfl, unhide HB2⟩

/-- How long a text in a slot is. -/
def strLen : Value → Nat
  | .string s => s.size
  | _ => 0
theorem rdigits_ex (n wd : Nat) (ni wi : Int) (hn : ni = (n : Int)) (hwi : wi = (wd : Int)) (hwd : wd ≤ 9) (hb : n ≤ 4611686018427387904) :
    ∃ b : ByteArray, b.size = wd ∧ Hid (∀ w : World, Calls Tryd.prog 33 #[.int .i64 ni, .int .i64 wi] w fun e w' => e = .returned (.string b) ∧ Below w.heap.size w w') ∧ Hid (b.data.toList = digs wd n) := by
  refine ⟨⟨(digs wd n).toArray⟩, ?_, fun w => rdigits_any n wd ni wi hn hwi hwd hb w, rfl⟩
  show (digs wd n).toArray.size = wd
  rw [List.size_toArray, digs_len]
theorem text_eq (y m d t nn : Nat) (b1 b2 b3 b4 b5 b6 f : ByteArray) (h1 : b1.data.toList = digs 4 y) (h2 : b2.data.toList = digs 2 m) (h3 : b3.data.toList = digs 2 d) (h4 : b4.data.toList = digs 2 (t / 3600))
    (h5 : b5.data.toList = digs 2 (t / 60 % 60)) (h6 : b6.data.toList = digs 2 (t % 60)) (hf : f.data.toList = if nn = 0 then [] else [46] ++ cut0 (digs 9 nn)) :
    b1 ++ ⟨#[45]⟩ ++ b2 ++ ⟨#[45]⟩ ++ b3 ++ ⟨#[84]⟩ ++ b4 ++ ⟨#[58]⟩ ++ b5 ++ ⟨#[58]⟩ ++ b6 ++ f ++ ⟨#[90]⟩ = (⟨(textD y m d t nn).toArray⟩ : ByteArray) := by
  unfold textD
  rw [← h1, ← h2, ← h3, ← h4, ← h5, ← h6, ← hf]
  apply ByteArray.ext
  simp

theorem sum_ex (a b : ByteArray) (n : Nat) (h : a.size + b.size = n) (hn : n ≤ 100) : ∃ c : ByteArray, c.size = n ∧ (∀ u : World, (Op.stringOp .add a b).run Tryd.prog u = .ok (.string c) u) ∧ Hid (a ++ b = c) :=
  ⟨a ++ b, by rw [ByteArray.size_append, h], fun u => run_string_add_sum u _ _ (by omega), rfl⟩

set_option maxRecDepth 100000 in
set_option maxHeartbeats 3200000 in
theorem rtext_in (s n : Int) (w : World) (hs0 : -9223372036854775808 ≤ s) (hs1 : s ≤ 9223372036854775807) (hn0 : -9223372036854775808 ≤ n) (hn1 : n ≤ 9223372036854775807)
    (R nn y m d : Nat) (hR : nSec s n = (R : Int) - 62167219200) (hR1 : R ≤ 315569519999) (hnn : nNano s n = (nn : Int)) (hD : isDate ((R : Int) / 86400 - 719528) y m d) :
    Calls Tryd.prog 16 #[iv s n] w fun e w' => e = .returned (.tuple #[.string ⟨(textD y m d (R % 86400) nn).toArray⟩, .int .i64 0]) ∧ Below w.heap.size w w' := by
  have N1 := hide (fun u => rnorm_any s n u hs0 hs1 hn0 hn1)
  have nb := nNano_in s n
  rw [hnn] at nb
  rw [hR, hnn] at N1
  have hdn := dn_in hD.1
  rw [hD.2] at hdn
  have hyb : y ≤ 9999 := by
    rcases Nat.lt_or_ge y 10000 with q | q
    · omega
    · have h1 := dby_mono 10000 y (by omega)
      have h2 : dby 10000 = 2932897 := by decide
      omega
  have hmb : 1 ≤ m ∧ m ≤ 12 := by have := hD.1.1; have := hD.1.2.1; omega
  have hdb : 1 ≤ d ∧ d ≤ 31 := by
    have h1 := hD.1.2.2
    have h2 := mon_ge y m hD.1.1 hD.1.2.1
    omega
  have DT := hide (fun u => rdate_any _ y m d u hD)
  rw [dateV_in (show -999999 ≤ (y : Int) ∧ (y : Int) ≤ 999999 by omega)] at DT
  obtain ⟨b1, z1, D1, g1⟩ := rdigits_ex y 4 y 4 rfl rfl (by omega) (by omega)
  obtain ⟨b2, z2, D2, g2⟩ := rdigits_ex m 2 m 2 rfl rfl (by omega) (by omega)
  obtain ⟨b3, z3, D3, g3⟩ := rdigits_ex d 2 d 2 rfl rfl (by omega) (by omega)
  obtain ⟨b4, z4, D4, g4⟩ := rdigits_ex (R % 86400 / 3600) 2 ((R : Int) % 86400 / 3600) 2 (by omega) rfl (by omega) (by omega)
  obtain ⟨b5, z5, D5, g5⟩ := rdigits_ex (R % 86400 / 60 % 60) 2 ((R : Int) % 86400 / 60 % 60) 2 (by omega) rfl (by omega) (by omega)
  obtain ⟨b6, z6, D6, g6⟩ := rdigits_ex (R % 86400 % 60) 2 ((R : Int) % 60) 2 (by omega) rfl (by omega) (by omega)
  obtain ⟨b7, z7, D7, g7⟩ := rdigits_ex nn 9 nn 9 rfl rfl (by omega) (by omega)
  obtain ⟨x1, q1, s1, t1⟩ := sum_ex b1 ⟨#[45]⟩ 5 (by rw [z1]; rfl) (by omega)
  obtain ⟨x2, q2, s2, t2⟩ := sum_ex x1 b2 7 (by rw [q1, z2]) (by omega)
  obtain ⟨x3, q3, s3, t3⟩ := sum_ex x2 ⟨#[45]⟩ 8 (by rw [q2]; rfl) (by omega)
  obtain ⟨x4, q4, s4, t4⟩ := sum_ex x3 b3 10 (by rw [q3, z3]) (by omega)
  obtain ⟨x5, q5, s5, t5⟩ := sum_ex x4 ⟨#[84]⟩ 11 (by rw [q4]; rfl) (by omega)
  obtain ⟨x6, q6, s6, t6⟩ := sum_ex x5 b4 13 (by rw [q5, z4]) (by omega)
  obtain ⟨x7, q7, s7, t7⟩ := sum_ex x6 ⟨#[58]⟩ 14 (by rw [q6]; rfl) (by omega)
  obtain ⟨x8, q8, s8, t8⟩ := sum_ex x7 b5 16 (by rw [q7, z5]) (by omega)
  obtain ⟨x9, q9, s9, t9⟩ := sum_ex x8 ⟨#[58]⟩ 17 (by rw [q8]; rfl) (by omega)
  obtain ⟨hd, zh, s10, t10⟩ := sum_ex x9 b6 19 (by rw [q9, z6]) (by omega)
  have HX := hide (fun f hf => text_eq y m d (R % 86400) nn b1 b2 b3 b4 b5 b6 f (unhide g1) (unhide g2) (unhide g3) (unhide g4) (unhide g5) (unhide g6) hf)
  generalize (⟨(textD y m d (R % 86400) nn).toArray⟩ : ByteArray) = res at *
  rw [unhide t1, unhide t2, unhide t3, unhide t4, unhide t5, unhide t6, unhide t7, unhide t8, unhide t9, unhide t10] at HX
  clear t1 t2 t3 t4 t5 t6 t7 t8 t9 t10 q1 q2 q3 q4 q5 q6 q7 q8 q9 z1 z2 z3 z4 z5 z6
  clear g1 g2 g3 g4 g5 g6 hdn hD hR hnn hs0 hs1 hn0 hn1
  have HB := hide ((Below.refl w.heap.size w).alloc (Nat.le_refl _) (.cells #[.int .i64 s, .int .i64 n] 24))
  simp only [iv] at N1 ⊢
  go_enter Tryd.func16, Tryd.ntmps16
  go_wp2_with fail
  refine (unhide N1 _).mono ?_
  rintro e w1 ⟨rfl, hb1⟩
  have HB1 := hide ((unhide HB).trans (hb1.mono (by simp)))
  have hz1 := hb1.size
  simp only [World.size_alloc] at hz1
  have HL := hide (IL.new w1 ((R : Int) - 62167219200) (nn : Int))
  obtain ⟨p0, p1⟩ := (unhide HL).cells
  have HB2 := hide ((unhide HB1).alloc (by omega) (.cells #[.int .i64 ((R : Int) - 62167219200), .int .i64 (nn : Int)] 24))
  clear hb1 HB HB1 N1
  have c1 : decide ((R : Int) - 62167219200 < -62167219200) = false := decide_eq_false (by omega)
  have c2 : decide (253402300799 < (R : Int) - 62167219200) = false := decide_eq_false (by omega)
  go_wp2_with fail
  refine (unhide DT _).mono ?_
  rintro e u ⟨rfl, hu⟩
  obtain rfl := hu.symm
  clear hu DT
  go_wp2_with fail
  refine (unhide D1 _).mono ?_
  rintro e v1 ⟨rfl, hb⟩
  have HL1 := hide ((unhide HL).below hb (unhide HL).lt)
  have HC1 := hide ((unhide HB2).trans (hb.mono (unhide HB2).size))
  clear hb D1 HL HB2 p0 p1
  go_wp2_with fail
  refine (unhide D2 _).mono ?_
  rintro e v2 ⟨rfl, hb⟩
  have HL2 := hide ((unhide HL1).below hb (unhide HL1).lt)
  have HC2 := hide ((unhide HC1).trans (hb.mono (unhide HC1).size))
  clear hb D2 HL1 HC1
  go_wp2_with fail
  refine (unhide D3 _).mono ?_
  rintro e v3 ⟨rfl, hb⟩
  have HL3 := hide ((unhide HL2).below hb (unhide HL2).lt)
  have HC3 := hide ((unhide HC2).trans (hb.mono (unhide HC2).size))
  clear hb D3 HL2 HC2
  go_wp2_with fail
  refine (unhide D4 _).mono ?_
  rintro e v4 ⟨rfl, hb⟩
  have HL4 := hide ((unhide HL3).below hb (unhide HL3).lt)
  have HC4 := hide ((unhide HC3).trans (hb.mono (unhide HC3).size))
  clear hb D4 HL3 HC3
  go_wp2_with fail
  refine (unhide D5 _).mono ?_
  rintro e v5 ⟨rfl, hb⟩
  have HL5 := hide ((unhide HL4).below hb (unhide HL4).lt)
  have HC5 := hide ((unhide HC4).trans (hb.mono (unhide HC4).size))
  clear hb D5 HL4 HC4
  go_wp2_with fail
  refine (unhide D6 _).mono ?_
  rintro e v6 ⟨rfl, hb⟩
  have HL6 := hide ((unhide HL5).below hb (unhide HL5).lt)
  have HC6 := hide ((unhide HC5).trans (hb.mono (unhide HC5).size))
  clear hb D6 HL5 HC5
  obtain ⟨p0, p1⟩ := (unhide HL6).cells
  go_upto_region 11 with fail
  clear hz1 c1 c2 s1 s2 s3 s4 s5 s6 s7 s8 s9 s10
  by_cases hn0 : nn = 0
  · subst hn0
    have HX0 := hide (show hd ++ ⟨#[90]⟩ = res by
      have := unhide HX ⟨#[]⟩ (by simp)
      rw [← this]
      congr 1
      apply ByteArray.ext
      simp)
    have hsz : ∀ u : World, (Op.stringOp .add hd ⟨#[90]⟩).run Tryd.prog u = .ok (.string (hd ++ ⟨#[90]⟩)) u := fun u => run_string_add_sum u _ _ (by rw [zh]; decide)
    clear HX D7 g7 z7 hyb hmb hdb
    go_wp2
    go_ret2
    exact ⟨by rw [← unhide HX0]; rfl, unhide HC6⟩
  · have hp : (0 : Int) < (nn : Int) := by omega
    have HF := hide (fun f (hf : f.data.toList = cut0 (digs 9 nn)) => unhide HX (⟨#[46]⟩ ++ f) (by rw [if_neg hn0, ← hf]; simp))
    have h7 := digs_some nn (by omega) (by omega)
    clear HX
    go_wp2_with fail
    refine (unhide D7 _).mono ?_
    rintro e v7 ⟨rfl, hb⟩
    have HC7 := hide ((unhide HC6).trans (hb.mono (unhide HC6).size))
    clear hb D7 HL6 HC6 p0 p1
    rw [← unhide g7] at HF h7
    have H7 := hide h7
    clear h7 g7 hyb hmb hdb hn0 hp
    go_wp2
    go_loop [15] (fun fv => ∃ f : ByteArray, fv = .string f ∧ f.size ≤ 9 ∧ Hid (∃ c ∈ f.data.toList, c ≠ 48) ∧ Hid (cut0 f.data.toList = cut0 b7.data.toList)) (fun fv => strLen fv)
    case atStart => exact ⟨b7, rfl, by omega, H7, rfl⟩
    case round =>
      obtain ⟨f, rfl, hf9, Hc, He⟩ := hrel
      have hpos : 0 < f.size := by
        rcases Nat.eq_zero_or_pos f.size with q | q
        · obtain ⟨c, hc, _⟩ := unhide Hc
          have : f.data.toList.length = 0 := by rw [Array.length_toList]; exact q
          rw [List.length_eq_zero_iff.1 this] at hc
          cases hc
        · exact q
      have HLst := hide (last_of f hpos)
      have hpos' : (0 : Int) < (f.size : Int) := by omega
      have hi0 : (0 : Int) ≤ (f.size : Int) - 1 := by omega
      have hi1 : (f.size : Int) - 1 < (f.size : Int) := by omega
      by_cases hq : f[f.size - 1] = 48
      · have hqb : (((f[f.size - 1].toNat : Int)) == 48) = true := by rw [hq]; rfl
        have hL := unhide HLst
        rw [hq] at hL
        have Hc2 := hide (show ∃ c ∈ (f.extract 0 (f.size - 1)).data.toList, c ≠ 48 by
          obtain ⟨c, hc, hne⟩ := unhide Hc
          rw [hL] at hc
          rcases List.mem_append.1 hc with z | z
          · exact ⟨c, z, hne⟩
          · exact absurd (List.mem_singleton.1 z) hne)
        have He2 := hide (show cut0 (f.extract 0 (f.size - 1)).data.toList = cut0 b7.data.toList by rw [← unhide He, hL, cut0_48])
        have hsz : (f.extract 0 (f.size - 1)).size = f.size - 1 := by rw [ByteArray.size_extract]; omega
        clear hL HLst Hc He hq HF
        go_wp2
        refine ⟨⟨f.extract 0 (f.size - 1), rfl, by rw [hsz]; omega, Hc2, He2⟩, ?_⟩
        show (f.extract 0 (f.size - 1)).size < f.size
        rw [hsz]
        omega
      · have hqb : (((f[f.size - 1].toNat : Int)) == 48) = false := by
          rw [beq_eq_false_iff_ne]
          intro z
          exact hq (UInt8.toNat_inj.1 (by have : (48 : UInt8).toNat = 48 := rfl; omega))
        have hL := unhide HLst
        have HE := hide (show hd ++ ⟨#[46]⟩ ++ f ++ ⟨#[90]⟩ = res by
          rw [← unhide HF f (by rw [← unhide He, hL, cut0_no _ _ hq, ← hL])]
          apply ByteArray.ext
          simp)
        clear hL HLst Hc He hq HF H7
        go_wp2
        go_ret2
        exact ⟨by rw [← unhide HE]; rfl, unhide HC7⟩
end Go.Proofs.YtemcilikchlaiaaDoor.st
