/- Package stamp: Text. -/
import Derived.Test.YtemcilikchlaiabDoorTl
import Derived.Test.YtemcilikchlaiabDoorTd
import Derived.Test.YtemcilikchlaiabDoorKp
namespace Go.Proofs.YtemcilikchlaiabDoor.st
open Go.RowKit

theorem lo0 : dby 0 = -719528 := by decide
theorem hi4 : dby 10000 = 2932897 := by decide

/-- The parts of a day and a time of it. -/
def vT (Y M D T : Nat) : Nat → Nat
  | 0 => Y
  | 1 => M
  | 2 => D
  | 3 => T / 3600
  | 4 => T / 60 % 60
  | _ => T % 60
def pA (Y M D T : Nat) : Array Value := #[.int .i64 (Y : Int), .int .i64 (M : Int), .int .i64 (D : Int), .int .i64 ((T : Int) / 3600), .int .i64 ((T : Int) / 60 % 60), .int .i64 ((T : Int) % 60)]
theorem pA_is (Y M D T : Nat) : partsA (vT Y M D T) = .agg (pA Y M D T) := by
  unfold partsA pA vT
  simp
theorem text_is (Y M D T n : Nat) : txP (vT Y M D T) 6 ++ (fracB n).data.toList ++ [90] = textD Y M D T n := by
  unfold textD fracB
  simp [txP, lkM, lkK, m0, m1, vT]
/-- A moment in the box of the call, behind Norm and Date. -/
theorem text_head (s n : Int) (w : World) (a : Addr) (hs : inI s) (hn : inI n) (hS : Sent w a) (y m d : Int) (hd : isDate (nSec s n / 86400) y m d)
    (Q : Ending → World → Prop)
    (hbad : ¬ (0 ≤ y ∧ y ≤ 9999) → ∀ w', Below w.heap.size w w' → Q (.returned (.tuple #[.string ⟨#[]⟩, eT a])) w')
    (hok : 0 ≤ y → y ≤ 9999 → ∀ w', Below w.heap.size w w' → Q (.returned (.tuple #[.string ⟨(textD y.toNat m.toNat d.toNat (nSec s n % 86400).toNat (nNano s n).toNat).toArray⟩, .nilIface])) w') :
    Calls Tryd.prog 8 #[iv s n] w Q := by
  have N := hide (fun u => norm_any s n u hs hn)
  have hin := nSec_in s n
  have hnn := nNano_in s n
  have D := hide (fun u => divide64_any (nSec s n) 86400 u (by omega) hin (by omega))
  have E := hide (fun u (hu : Sent u a) => date_any (nSec s n / 86400) y m d u a hd hu)
  have hdd := hd.1
  have hT : 0 ≤ nSec s n % 86400 ∧ nSec s n % 86400 < 86400 := by omega
  have hmg := mon_ge y m hdd.1 hdd.2.1
  obtain ⟨hm1, hm2, hd1, hd2⟩ := hdd
  obtain ⟨M, hM⟩ : ∃ M : Nat, m = (M : Int) := ⟨m.toNat, by omega⟩
  obtain ⟨Dd, hDd⟩ : ∃ M : Nat, d = (M : Int) := ⟨d.toNat, by omega⟩
  obtain ⟨T, hTT⟩ : ∃ M : Nat, nSec s n % 86400 = (M : Int) := ⟨(nSec s n % 86400).toNat, by omega⟩
  obtain ⟨nn, hNN⟩ : ∃ M : Nat, nNano s n = (M : Int) := ⟨(nNano s n).toNat, by omega⟩
  simp only [divT] at D
  rw [hTT] at D hT hok
  rw [hNN] at hnn hok
  simp only [hNN] at N
  subst hM hDd
  simp only [Int.toNat_natCast] at hok
  clear hTT hNN hd
  generalize nSec s n / 86400 = q at *
  generalize nSec s n = S at *
  have HOK := hide hok
  have HBAD := hide hbad
  have HI0 := hide (IL.new w s n)
  have HB0 := hide ((Below.refl w.heap.size w).alloc (Nat.le_refl _) (.cells #[.int .i64 s, .int .i64 n] 23))
  have HS := hide hS
  have hg : 0 < w.heap.size := cell_lt hS.n
  simp only [iv] at N ⊢
  clear hok hbad hS hs hn
  go_enter Tryd.func8, Tryd.ntmps8
  go_wp2_with fail
  refine (unhide N _).mono ?_
  rintro e w1 ⟨rfl, hb1⟩
  have HI1 := hide ((unhide HI0).below hb1 (by simp))
  have HB1 := hide ((unhide HB0).trans (hb1.mono (by simp)))
  obtain ⟨f0, f1⟩ := (unhide HI1).frees
  obtain ⟨c0, c1⟩ := (unhide HI1).cells
  have HI2 := hide ((unhide HI1).set S nn)
  have HB2 := hide (below2 (unhide HB1) (Nat.le_refl _) (.int .i64 S) (.int .i64 (nn : Int)))
  clear hb1 N HI0 HB0 HI1 HB1
  go_wp2_with fail
  refine (unhide D _).mono ?_
  rintro e w2 ⟨rfl, k, hw2⟩
  have HI3 : Hid (IL w2 w.heap.size S nn) := by rw [hw2]; exact unhide HI2
  have HB3 : Hid (Below w.heap.size w w2) := by rw [hw2]; exact (unhide HB2).trans ((below_drawn _ k).mono (unhide HB2).size)
  clear hw2 D HI2 HB2 f0 f1 c0 c1
  have E' := hide (unhide E w2 ((unhide HS).keep (unhide HB3)))
  clear E
  by_cases hr : -999999 ≤ y ∧ y ≤ 999999
  · rw [show dateE0 a y M Dd = .tuple #[.int .i64 y, .int .i64 (M : Int), .int .i64 (Dd : Int), .nilIface] by unfold dateE0; rw [if_pos hr]] at E'
    go_wp2_with fail
    refine (unhide E').mono ?_
    rintro e w3 ⟨rfl, hb3⟩
    have HI4 := hide ((unhide HI3).below hb3 (unhide HI3).lt)
    have HB4 := hide ((unhide HB3).trans (hb3.mono (unhide HB3).size))
    clear E' HI3 HB3 hb3
    by_cases hy0 : y < 0
    · have hN := ((unhide HS).keep (unhide HB4)).n
      have HB := hide (unhide HBAD (by omega))
      clear HOK HBAD HI4
      unfold eT at HB
      go_wp2
      go_quiet (fail)
      go_wp2
      exact unhide HB _ ((unhide HB4).trans ((below_drawn _ _).mono (unhide HB4).size))
    · by_cases hy9 : 9999 < y
      · have hN := ((unhide HS).keep (unhide HB4)).n
        have HB := hide (unhide HBAD (by omega))
        clear HOK HBAD HI4
        unfold eT at HB
        go_wp2
        go_quiet (fail)
        go_wp2
        exact unhide HB _ ((unhide HB4).trans ((below_drawn _ _).mono (unhide HB4).size))
      · obtain ⟨Y, rfl⟩ : ∃ Y : Nat, y = (Y : Int) := ⟨y.toNat, by omega⟩
        have HO := hide (unhide HOK (by omega) (by omega))
        rw [Int.toNat_natCast] at HO
        clear HOK HBAD hr
        have PT := hide (fun u (hu : Pow u) => partsText_any (vT Y M Dd T) (by show Y < 10000; omega) (fun i h1 h2 => by
          have : i = 1 ∨ i = 2 ∨ i = 3 ∨ i = 4 ∨ i = 5 := by omega
          rcases this with rfl | rfl | rfl | rfl | rfl
          · show M < 100; omega
          · show Dd < 100; omega
          · show T / 3600 < 100; omega
          · show T / 60 % 60 < 100; omega
          · show T % 60 < 100; omega) u hu)
        rw [pA_is] at PT
        unfold pA at PT
        have FT := hide (fun u (hu : Pow u) => fractionText_any nn nn rfl (by omega) u hu)
        have hTX := text_is Y M Dd T nn
        have hl1 := txP_len (vT Y M Dd T) 6 (by omega)
        have hl2 : (fracB nn).size ≤ 100 := by
          have := cut0_le (digs 9 nn)
          rw [digs_len] at this
          unfold fracB
          show (if nn = 0 then [] else [46] ++ cut0 (digs 9 nn)).toArray.size ≤ 100
          rw [List.size_toArray]
          split
          · simp
          · rw [List.length_append]; simp; omega
        have hl3 : (⟨(txP (vT Y M Dd T) 6).toArray⟩ : ByteArray).size ≤ 100 := by
          show (txP (vT Y M Dd T) 6).toArray.size ≤ 100
          rw [List.size_toArray]; omega
        have hcat : ((⟨(txP (vT Y M Dd T) 6).toArray⟩ : ByteArray) ++ fracB nn) ++ ⟨#[90]⟩ = ⟨(textD Y M Dd T nn).toArray⟩ := by
          rw [← hTX]
          apply ByteArray.ext
          simp
        generalize (⟨(textD Y M Dd T nn).toArray⟩ : ByteArray) = out at *
        generalize (⟨(txP (vT Y M Dd T) 6).toArray⟩ : ByteArray) = tx at *
        generalize fracB nn = fr at *
        have hc1 : ∀ u : World, (Op.stringOp .add tx fr).run Tryd.prog u = .ok (.string (tx ++ fr)) u := fun u => run_string_add_sum u _ _ (by omega)
        have hsz9 : (tx ++ fr).size = tx.size + fr.size := ByteArray.size_append
        have hc2 : ∀ u : World, (Op.stringOp .add (tx ++ fr) ⟨#[90]⟩).run Tryd.prog u = .ok (.string out) u := fun u => by rw [← hcat]; exact run_string_add_sum u _ _ (by rw [hsz9]; show _ + 1 ≤ _; omega)
        generalize tx ++ fr = tf at *
        have ha : Below w3.heap.size w3 (w3.alloc (.cells (pA Y M Dd T) 46)) := (Below.refl _ _).alloc (Nat.le_refl _) _
        have hlb : (w3.alloc (.cells (pA Y M Dd T) 46)).heap[w3.heap.size]? = some (.cells (pA Y M Dd T) 46 (0, 0)) := Array.getElem?_push_size
        have y0 : (w3.alloc (.cells (pA Y M Dd T) 46)).cell? ⟨w3.heap.size, 0, none⟩ = some (.int .i64 (Y : Int)) := blk_cell hlb 0
        have y1 : (w3.alloc (.cells (pA Y M Dd T) 46)).cell? ⟨w3.heap.size, 1, none⟩ = some (.int .i64 (M : Int)) := blk_cell hlb 1
        have y2 : (w3.alloc (.cells (pA Y M Dd T) 46)).cell? ⟨w3.heap.size, 2, none⟩ = some (.int .i64 (Dd : Int)) := blk_cell hlb 2
        have y3 : (w3.alloc (.cells (pA Y M Dd T) 46)).cell? ⟨w3.heap.size, 3, none⟩ = some (.int .i64 ((T : Int) / 3600)) := blk_cell hlb 3
        have y4 : (w3.alloc (.cells (pA Y M Dd T) 46)).cell? ⟨w3.heap.size, 4, none⟩ = some (.int .i64 ((T : Int) / 60 % 60)) := blk_cell hlb 4
        have y5 : (w3.alloc (.cells (pA Y M Dd T) 46)).cell? ⟨w3.heap.size, 5, none⟩ = some (.int .i64 ((T : Int) % 60)) := blk_cell hlb 5
        have x1 : (w3.alloc (.cells (pA Y M Dd T) 46)).cell? ⟨w.heap.size, 1, none⟩ = some (.int .i64 (nn : Int)) := ((unhide HI4).alloc _).cells.2
        have hPW := hide (((unhide HS).keep (unhide HB4)).tb.keep ha)
        have HB5 := hide ((unhide HB4).trans (ha.mono (unhide HB4).size))
        unfold pA at *
        clear hcat hTX hl1 hl2 hl3 hsz9 ha hlb
        go_wp2_with fail
        generalize w3.alloc (.cells #[.int .i64 (Y : Int), .int .i64 (M : Int), .int .i64 (Dd : Int), .int .i64 ((T : Int) / 3600), .int .i64 ((T : Int) / 60 % 60), .int .i64 ((T : Int) % 60)] 46) = wq at *
        go_region_held3 (fun w' => w'.cell? ⟨w3.heap.size, 0, none⟩ = some (.int .i64 (Y : Int)) ∧ w'.cell? ⟨w3.heap.size, 1, none⟩ = some (.int .i64 (M : Int)) ∧ w'.cell? ⟨w3.heap.size, 2, none⟩ = some (.int .i64 (Dd : Int)) ∧ w'.cell? ⟨w3.heap.size, 3, none⟩ = some (.int .i64 ((T : Int) / 3600)) ∧ w'.cell? ⟨w3.heap.size, 4, none⟩ = some (.int .i64 ((T : Int) / 60 % 60)) ∧ w'.cell? ⟨w3.heap.size, 5, none⟩ = some (.int .i64 ((T : Int) % 60)) ∧ w'.cell? ⟨w.heap.size, 1, none⟩ = some (.int .i64 (nn : Int))) (((try dsimp only); (repeat' apply And.intro); all_goals first | assumption | (go_keep; done) | (simp; omega))) (first
          | (go_at_call 16; refine (unhide PT _ (by exact unhide hPW)).mono ?_; rintro e w5 ⟨rfl, h5⟩; have k0 := keepC h5 (b := w3.heap.size) (o := 0) (v := .int .i64 (Y : Int)) (by exact y0); have k1 := keepC h5 (b := w3.heap.size) (o := 1) (v := .int .i64 (M : Int)) (by exact y1); have k2 := keepC h5 (b := w3.heap.size) (o := 2) (v := .int .i64 (Dd : Int)) (by exact y2); have k3 := keepC h5 (b := w3.heap.size) (o := 3) (v := .int .i64 ((T : Int) / 3600)) (by exact y3); have k4 := keepC h5 (b := w3.heap.size) (o := 4) (v := .int .i64 ((T : Int) / 60 % 60)) (by exact y4); have k5 := keepC h5 (b := w3.heap.size) (o := 5) (v := .int .i64 ((T : Int) % 60)) (by exact y5); have k6 := keepC h5 (b := w.heap.size) (o := 1) (v := .int .i64 (nn : Int)) (by exact x1); have hP5 := hide (Pow.keep (show Pow (World.drew _) from unhide hPW) h5); have HB6 : Hid (Below w.heap.size w w5) := (unhide HB5).trans (Below.mono (show Below wq.heap.size wq w5 from ⟨h5.os, h5.tape, h5.output, h5.size, h5.block⟩) (unhide HB5).size); clear h5)
          | (go_at_call 17; refine (unhide FT _ (unhide hP5)).mono ?_; rintro e w6 ⟨rfl, h6⟩; have j0 := keepC h6 k0; have j1 := keepC h6 k1; have j2 := keepC h6 k2; have j3 := keepC h6 k3; have j4 := keepC h6 k4; have j5 := keepC h6 k5; have j6 := keepC h6 k6; have HB7 := hide ((unhide HB6).trans (h6.mono (unhide HB6).size)); clear h6))
        all_goals go_wp2
        all_goals exact unhide HO _ (unhide HB7)
  · rw [show dateE0 a y M Dd = .tuple #[.int .i64 0, .int .i64 0, .int .i64 0, eT a] by unfold dateE0; rw [if_neg hr]] at E'
    have HB := hide (unhide HBAD (by omega))
    clear HOK HBAD
    unfold eT at HB E'
    go_wp2_with fail
    refine (unhide E').mono ?_
    rintro e w3 ⟨rfl, hb3⟩
    have HB4 := hide ((unhide HB3).trans (hb3.mono (unhide HB3).size))
    have hN := ((unhide HS).keep (unhide HB4)).n
    clear E' HI3 HB3 hb3
    go_wp2
    go_quiet (fail)
    go_wp2
    exact unhide HB _ ((unhide HB4).trans ((below_drawn _ _).mono (unhide HB4).size))
end Go.Proofs.YtemcilikchlaiabDoor.st
