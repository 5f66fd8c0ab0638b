/- StampOffsets, where hours and minutes are an offset's. -/
import Derived.Test.YtemcilikchlaiabDoorMa
namespace Go.Proofs.YtemcilikchlaiabDoor.st
open Go.RowKit

theorem cat_ex (a b : ByteArray) (h : a.size + b.size ≤ 1000) : ∃ c : ByteArray, (∀ u : World, (Op.stringOp .add a b).run Tryd.prog u = .ok (.string c) u) ∧ Hid (a ++ b = c) ∧ c.size = a.size + b.size :=
  ⟨a ++ b, fun u => run_string_add_sum u _ _ (by omega), rfl, ByteArray.size_append⟩

set_option maxRecDepth 100000 in
set_option maxHeartbeats 3200000 in
theorem offsets_in (K : StampOK) (s n : Int) (hh mi : Nat) (w : World) (a : Addr) (hS : Sent w a) (hs : inI s) (hn : inI n) (l : List UInt8) (hr : isText s n (some l)) (h1 : hh ≤ 23) (h2 : mi ≤ 59) :
    Calls Tryd.prog 4 #[iv s n, .int .i64 (hh : Int), .int .i64 (mi : Int)] w fun e w' => e = .returned (.bool true) ∧ Below w.heap.size w w' := by
  have C0 := hide (fun u hu => shown_any K u a hu)
  have C1 := hide (fun u hu => K.text s n (some l) u a hs hn hr hu)
  have hsz := text_size hr
  have P0 := parse_text hr
  have P1 := parse_off hr hh mi h1 h2 true
  have P2 := parse_off hr hh mi h1 h2 false
  have n1 := nSec_in s n
  have nb : -62167219200 ≤ nSec s n ∧ nSec s n ≤ 253402300799 := by
    rcases hr with ⟨q, _⟩ | ⟨R, nn, y, m, d, g1, g2, _⟩
    · cases q
    · omega
  obtain ⟨x, hx⟩ : ∃ x : ByteArray, (⟨l.toArray⟩ : ByteArray) = x := ⟨_, rfl⟩
  have hxl : x.data.toList = l := by rw [← hx]
  have hxs : x.size = l.length := by rw [← hx]; exact List.size_toArray
  have hbg : (x.extract 0 (x.size - 1)).data.toList = l.dropLast := by
    rw [← hxl]
    simp
  have hbs : (x.extract 0 (x.size - 1)).size = x.size - 1 := by rw [ByteArray.size_extract]; omega
  obtain ⟨bg, hbe⟩ : ∃ bg : ByteArray, x.extract 0 (x.size - 1) = bg := ⟨_, rfl⟩
  rw [hbe] at hbg hbs
  obtain ⟨ob, hob⟩ : ∃ ob : ByteArray, offB hh mi = ob := ⟨_, rfl⟩
  have hos : ob.size = 5 := by rw [← hob]; rfl
  have hol : ob.data.toList = digs 2 hh ++ ([58] ++ digs 2 mi) := by rw [← hob]; exact offB_list hh mi h1 h2
  obtain ⟨e0, es, eh, ez⟩ := cat_ex bg ⟨#[43]⟩ (by rw [hbs]; show _ + 1 ≤ 1000; omega)
  obtain ⟨e1, es1, eh1, ez1⟩ := cat_ex e0 ob (by rw [ez, hbs, hos]; show _ + 1 + 5 ≤ 1000; omega)
  obtain ⟨f0, fs, fh, fz⟩ := cat_ex bg ⟨#[45]⟩ (by rw [hbs]; show _ + 1 ≤ 1000; omega)
  obtain ⟨f1, fs1, fh1, fz1⟩ := cat_ex f0 ob (by rw [fz, hbs, hos]; show _ + 1 + 5 ≤ 1000; omega)
  have k1 : (⟨(l.dropLast ++ ([43] ++ (digs 2 hh ++ ([58] ++ digs 2 mi)))).toArray⟩ : ByteArray) = e1 := by
    rw [← hbg, ← hol, ← unhide eh1, ← unhide eh]
    apply ByteArray.ext
    simp
  have k2 : (⟨(l.dropLast ++ ([45] ++ (digs 2 hh ++ ([58] ++ digs 2 mi)))).toArray⟩ : ByteArray) = f1 := by
    rw [← hbg, ← hol, ← unhide fh1, ← unhide fh]
    apply ByteArray.ext
    simp
  simp only [if_true, Bool.false_eq_true, if_false] at P1 P2
  rw [hx] at P0
  rw [k1] at P1
  rw [k2] at P2
  have Q0 := hide (fun u hu => K.parse x u a (by omega) hu)
  have Q1 := hide (fun u hu => K.parse e1 u a (by rw [ez1, ez, hbs, hos]; show _ + 1 + 5 ≤ _; omega) hu)
  have Q2 := hide (fun u hu => K.parse f1 u a (by rw [fz1, fz, hbs, hos]; show _ + 1 + 5 ≤ _; omega) hu)
  rw [P0] at Q0
  rw [P1] at Q1
  rw [P2] at Q2
  simp only [texE, hx] at C1
  generalize nSec s n = p at *
  generalize nNano s n = q at *
  simp only [iv, parE] at C1 Q0 Q1 Q2 ⊢
  obtain ⟨b0, b1⟩ := off_bytes hh (by omega)
  obtain ⟨b2, b3⟩ := off_bytes mi (by omega)
  have w0 : IntKind.u8.wrap (48 + (hh : Int) / 10) = 48 + (hh : Int) / 10 := IntWalk.u8_in _ ⟨by omega, by omega⟩
  have w1 : IntKind.u8.wrap (48 + (hh : Int) % 10) = 48 + (hh : Int) % 10 := IntWalk.u8_in _ ⟨by omega, by omega⟩
  have w2 : IntKind.u8.wrap (48 + (mi : Int) / 10) = 48 + (mi : Int) / 10 := IntWalk.u8_in _ ⟨by omega, by omega⟩
  have w3 : IntKind.u8.wrap (48 + (mi : Int) % 10) = 48 + (mi : Int) % 10 := IntWalk.u8_in _ ⟨by omega, by omega⟩
  have hcv := fun u => conv_five u _ _ 58 _ _ (48 + (hh : Int) / 10) (48 + (hh : Int) % 10) 58 (48 + (mi : Int) / 10) (48 + (mi : Int) % 10) b0 b1 rfl b2 b3
  rw [show (⟨#[UInt8.ofNat (48 + hh / 10), UInt8.ofNat (48 + hh % 10), 58, UInt8.ofNat (48 + mi / 10), UInt8.ofNat (48 + mi % 10)]⟩ : ByteArray) = ob from hob] at hcv
  have HS := hide (hS.alloc (.cells #[.int .i64 s, .int .i64 n] 23))
  have HB := hide ((Below.refl w.heap.size w).alloc (Nat.le_refl _) (.cells #[.int .i64 s, .int .i64 n] 23))
  have HT := hide (IL.new w s n)
  have g1 : decide ((hh : Int) < 0) = false := decide_eq_false (by omega)
  have g2 : decide (23 < (hh : Int)) = false := decide_eq_false (by omega)
  have g3 : decide ((mi : Int) < 0) = false := decide_eq_false (by omega)
  have g4 : decide (59 < (mi : Int)) = false := decide_eq_false (by omega)
  have hhi : (hh : Int) ≤ 23 := by omega
  have hmi : (mi : Int) ≤ 59 := by omega
  have hx20 : 20 ≤ x.size := by omega
  have hx30 : x.size ≤ 30 := by omega
  have hemp : x.toList.isEmpty = false := by
    rw [ByteArray.toList_eq, hxl]
    cases l with
    | nil => simp at hsz
    | cons _ _ => rfl
  clear K hS hs hn hr P0 P1 P2 b0 b1 b2 b3 hob hol hbg hxl hx eh eh1 fh fh1 ez ez1 fz fz1 k1 k2 n1 hsz hxs hos hbs h1 h2
  go_enter Tryd.func4, Tryd.ntmps4
  go_wp2_with fail
  refine (unhide C0 _ (unhide HS)).mono ?_
  rintro e v1 ⟨rfl, hb1⟩
  have HB1 := hide ((unhide HB).trans (hb1.mono (unhide HB).size))
  have HS1 := hide ((unhide HS).keep hb1)
  obtain ⟨t0, t1⟩ := ((unhide HT).below hb1 (unhide HT).lt).cells
  clear hb1 HS C0 HB HT
  go_wp2_with fail
  refine (unhide C1 _ (unhide HS1)).mono ?_
  rintro e v2 ⟨rfl, hb2⟩
  have HB2 := hide ((unhide HB1).trans (hb2.mono (unhide HB1).size))
  have HS2 := hide ((unhide HS1).keep hb2)
  clear hb2 HB1 HS1 C1 t0 t1
  go_wp2_with fail
  refine (unhide Q0 _ (((unhide HS2).alloc _))).mono ?_
  rintro e v3 ⟨rfl, hb3⟩
  have HB3 := hide ((((unhide HB2).alloc (unhide HB2).size _).trans (hb3.mono ((unhide HB2).alloc (unhide HB2).size _).size)))
  have HB3' := hide ((unhide HB3).alloc (unhide HB3).size (.cells #[.int .i64 p, .int .i64 q] 23))
  have HS3 := hide ((((unhide HS2).alloc _).keep hb3).alloc (.cells #[.int .i64 p, .int .i64 q] 23))
  have HX := hide (IL.new v3 p q)
  clear hb3 HB2 HS2 Q0 HB3
  go_wp2_with fail
  refine (unhide Q1 _ (unhide HS3)).mono ?_
  rintro e v4 ⟨rfl, hb4⟩
  have HB4 := hide ((unhide HB3').trans (hb4.mono (unhide HB3').size))
  have HB4' := hide ((unhide HB4).alloc (unhide HB4).size (.cells #[.int .i64 (p + -((hh : Int) * 3600 + (mi : Int) * 60)), .int .i64 q] 23))
  have HS4 := hide (((unhide HS3).keep hb4).alloc (.cells #[.int .i64 (p + -((hh : Int) * 3600 + (mi : Int) * 60)), .int .i64 q] 23))
  have HX4 := hide (((unhide HX).below hb4 (unhide HX).lt).alloc (.cells #[.int .i64 (p + -((hh : Int) * 3600 + (mi : Int) * 60)), .int .i64 q] 23))
  have HY4 := hide (IL.new v4 (p + -((hh : Int) * 3600 + (mi : Int) * 60)) q)
  clear hb4 HB3' HS3 Q1 HX HB4
  go_wp2_with fail
  refine (unhide Q2 _ (unhide HS4)).mono ?_
  rintro e v5 ⟨rfl, hb5⟩
  have HB5 := hide ((unhide HB4').trans (hb5.mono (unhide HB4').size))
  have HB5' := hide ((unhide HB5).alloc (unhide HB5).size (.cells #[.int .i64 (p + ((hh : Int) * 3600 + (mi : Int) * 60)), .int .i64 q] 23))
  obtain ⟨x0, x1⟩ := (((unhide HX4).below hb5 (unhide HX4).lt).alloc (.cells #[.int .i64 (p + ((hh : Int) * 3600 + (mi : Int) * 60)), .int .i64 q] 23)).cells
  obtain ⟨y0, y1⟩ := (((unhide HY4).below hb5 (unhide HY4).lt).alloc (.cells #[.int .i64 (p + ((hh : Int) * 3600 + (mi : Int) * 60)), .int .i64 q] 23)).cells
  obtain ⟨z0, z1⟩ := (IL.new v5 (p + ((hh : Int) * 3600 + (mi : Int) * 60)) q).cells
  have j1 : (p + -((hh : Int) * 3600 + (mi : Int) * 60) == p - ((hh : Int) * 3600 + (mi : Int) * 60)) = true := by rw [beq_iff_eq]; omega
  clear hb5 HB4' HS4 Q2 HX4 HY4 HB5
  go_wp2
  go_ret
  exact ⟨by simp, unhide HB5'⟩

theorem offsets_any (K : StampOK) (s n h mi : Int) (w : World) (a : Addr) (hS : Sent w a) (hs : inI s) (hn : inI n) :
    Calls Tryd.prog 4 #[iv s n, .int .i64 h, .int .i64 mi] w fun e w' => e = .returned (.bool true) ∧ Below w.heap.size w w' := by
  obtain ⟨r, hr⟩ := isText_ex s n
  by_cases hb : r = none ∨ h < 0 ∨ 23 < h ∨ mi < 0 ∨ 59 < mi
  · exact offsets_none K s n h mi w a hS hs hn r hr hb
  · cases r with
    | none => exact absurd (Or.inl rfl) hb
    | some l =>
      obtain ⟨hh, rfl⟩ : ∃ k : Nat, h = (k : Int) := ⟨h.toNat, by omega⟩
      obtain ⟨mm, rfl⟩ : ∃ k : Nat, mi = (k : Int) := ⟨mi.toNat, by omega⟩
      exact offsets_in K s n hh mm w a hS hs hn l hr (by omega) (by omega)
end Go.Proofs.YtemcilikchlaiabDoor.st
