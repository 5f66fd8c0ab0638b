/- Package rule: the asker's eval, and Eval, at awake's two rules. Made by a program. -/
import Derived.Test.YthpnclhfooileaaGreatDoorHl
import Derived.BigRegion
import Derived.BigQuiet
import Derived.Deep.Cut
import Derived.Deep.MidRow
namespace Go.Proofs.YthpnclhfooileaaGreatDoor.ru
open Go.RowKit

/-- The table's row of NumericEquals. -/
theorem row15 (n : Nat) : (rowC n)[60]? = some (.string ⟨#[78, 117, 109, 101, 114, 105, 99, 69, 113, 117, 97, 108, 115]⟩) ∧ (rowC n)[61]? = some (.func (.func 45) #[] #[.pointer (some ⟨n + 2, 0, none⟩)]) ∧ (rowC n)[62]? = some (.func (.func 28) #[.agg #[.func (.func 45) #[] #[.pointer (some ⟨n + 2, 0, none⟩)], .func (.func 24) #[] #[]]] #[]) ∧ (rowC n)[63]? = some (.bool false) := by
  refine ⟨?_, ?_, ?_, ?_⟩ <;> kernel_rfl
theorem fun_nil (f : Fn) (a c : Array Value) (u : World) : (binOp .eql 51 (.func f a c) .nilFunc).run Tryz.prog u = .ok (.bool false) u := by kernel_rfl
theorem wpl_val {P : Program} {ops : Array Oper} {o : Oper} {rest : List Oper} {Q : Exit → Act → World → Prop} {a : Act} {w w' : World} {v : Value} (hg : o.guard = none) (hr : (execOp a.eval o).run P w = .ok (.value v) w') (h : wpList P ops Q rest (a.put o.dst v) w') : wpList P ops Q (o :: rest) a w :=
  wpList_plain hg fun K hK => by unfold Oper.wp; rw [hr]; exact hK _ _ h
theorem range0 {w : World} {b : Nat} {cs : List Value} {t : TypeId} {fr : Nat × Nat} (h : w.heap[b]? = some (.cells cs.toArray t fr)) : w.rangeAt b 0 cs := fun j v hv => by
  rw [Nat.zero_add, blk_cell h]; simpa using hv
/-- Two blocks of eval: the value, and the operator's row. -/
structure EW (w1 wd : World) (n : Nat) : Prop where
  v : V8 wd w1.heap.size #[.int .i64 2, .bool false, .bool false, .string ⟨#[51]⟩, .int .i64 0, .string ⟨#[]⟩, .slice none 0 0, .slice none 0 0]
  o : wd.heap[w1.heap.size + 1]? = some (.cells #[.string ⟨#[78, 117, 109, 101, 114, 105, 99, 69, 113, 117, 97, 108, 115]⟩, .func (.func 45) #[] #[.pointer (some ⟨n + 2, 0, none⟩)], .func (.func 28) #[.agg #[.func (.func 45) #[] #[.pointer (some ⟨n + 2, 0, none⟩)], .func (.func 24) #[] #[]]] #[], .bool false] 53 (0, 0))
  below : Below w1.heap.size w1 wd
theorem EW.start (w1 : World) (n : Nat) : EW w1 ((w1.alloc (.cells #[.int .i64 2, .bool false, .bool false, .string ⟨#[51]⟩, .int .i64 0, .string ⟨#[]⟩, .slice none 0 0, .slice none 0 0] 34)).alloc (.cells #[.string ⟨#[78, 117, 109, 101, 114, 105, 99, 69, 113, 117, 97, 108, 115]⟩, .func (.func 45) #[] #[.pointer (some ⟨n + 2, 0, none⟩)], .func (.func 28) #[.agg #[.func (.func 45) #[] #[.pointer (some ⟨n + 2, 0, none⟩)], .func (.func 24) #[] #[]]] #[], .bool false] 53)) n := ⟨two_lo _ _ _ _ _, two_hi _ _ _ _ _, two_below _ _ _⟩
theorem EW.drew {w1 wd : World} {n : Nat} (h : EW w1 wd n) : EW w1 wd.drew n := ⟨h.v, h.o, h.below.drew⟩
theorem EW.keep {w1 wd w' : World} {n : Nat} (h : EW w1 wd n) (hb : Below wd.heap.size wd w') : EW w1 w' n := ⟨(hb.block _ (blk_lt h.v)).trans h.v, (hb.block _ (blk_lt h.o)).trans h.o, h.below.trans (hb.mono h.below.size)⟩
set_option maxRecDepth 100000 in
set_option maxHeartbeats 3200000 in
theorem eval_no {a : Addr} (ab n fb sb : Nat) (w : World) (hP : SentP w a) (hA : AskAt w ab (n + 8) fb) (hC : ∀ u, Below w.heap.size w u → Calls Tryz.prog 53 #[pathV sb 1, objV fb 1, .agg z8] u fun e w' => e = .returned (.tuple #[.agg #[.int .i64 0, .bool false, .bool false, .string ⟨#[]⟩, .int .i64 0, .string ⟨#[]⟩, .slice none 0 0, .slice none 0 0], .bool false]) ∧ Below u.heap.size u w') :
    Calls Tryz.prog 21 #[.pointer (some ⟨ab, 0, none⟩), ruleV sb] w fun e w' => e = .returned (.tuple #[.bool false, eP a]) ∧ Below w.heap.size w w' := by
  have hb0 : ∀ o : Obj, Below w.heap.size w (w.alloc o) := fun o => (Below.refl _ _).alloc (Nat.le_refl _) _
  have CG := hide (fun o : Obj => aget_no ab (n + 8) fb sb (w.alloc o) (hA.keep (hb0 o)) (fun u hu => hC u ((hb0 o).trans (hu.mono (hb0 o).size))))
  have HP := hide hP
  have HB0 := hide hb0
  unfold pathV at CG
  unfold ruleV
  clear hC hA hP hb0
  go_enter Tryz.func21, Tryz.ntmps21
  go_wp2_with fail
  refine (unhide CG _).mono ?_
  rintro e w1 ⟨rfl, h1⟩
  have HB1 := hide ((unhide HB0 _).trans (h1.mono (unhide HB0 _).size))
  have hn := ((unhide HP).keep (unhide HB1)).n
  have hgl := cell_lt hn
  clear CG h1
  go_wp2_with fail
  go_region
  all_goals go_wp2
  all_goals go_ret2
  all_goals exact ⟨rfl, ((unhide HB1).alloc (unhide HB1).size _).drew⟩
set_option maxRecDepth 100000 in
set_option maxHeartbeats 6400000 in
theorem eval_yes (ab n fb sb : Nat) (w : World) (hA : AskAt w ab (n + 8) fb) (hR : w.heap[n + 8]? = some (.cells (rowC n) 53 (0, 0))) (hN : w.cell? ⟨n + 2, 0, none⟩ = some (.int .i64 2)) (hC : ∀ u, Below w.heap.size w u → Calls Tryz.prog 53 #[pathV sb 1, objV fb 1, .agg z8] u fun e w' => e = .returned (.tuple #[.agg #[.int .i64 2, .bool false, .bool false, .string ⟨#[51]⟩, .int .i64 0, .string ⟨#[]⟩, .slice none 0 0, .slice none 0 0], .bool true]) ∧ Below u.heap.size u w') :
    Calls Tryz.prog 21 #[.pointer (some ⟨ab, 0, none⟩), ruleV sb] w fun e w' => e = .returned (.tuple #[.bool true, .nilIface]) ∧ Below w.heap.size w w' := by
  have hb0 : ∀ o : Obj, Below w.heap.size w (w.alloc o) := fun o => (Below.refl _ _).alloc (Nat.le_refl _) _
  have CG := hide (fun o : Obj => aget_yes ab (n + 8) fb sb (w.alloc o) (hA.keep (hb0 o)) (fun u hu => hC u ((hb0 o).trans (hu.mono (hb0 o).size))))
  have CO := hide (fun u hu => other3 ab sb (n + 2) u hu)
  have CI := hide (fun u hu => is_num (n + 2) u hu)
  have CE := hide (fun u => equal3 (okF (n + 2)) ⟨_, _, _, rfl⟩ u)
  have HB0 := hide hb0
  have HA := hide hA
  have HR := hide hR
  have HN := hide hN
  unfold pathV at CG
  unfold three ruleV at CO
  unfold three at CI
  unfold kindV pl okF three at CE
  unfold ruleV
  have hnew : (w.alloc (.cells #[.int .i64 15, .slice none 0 0, .bool true, .bool false, .bool false, .slice (some ⟨sb, 0, none⟩) 1 1, .int .i64 2, .bool false, .bool false, .string ⟨#[51]⟩, .int .i64 0, .string ⟨#[]⟩, .slice none 0 0, .slice none 0 0, .bool false, .bool false, .bool false, .slice none 0 0, .string ⟨#[]⟩] 47)).heap[w.heap.size]? = some (.cells #[.int .i64 15, .slice none 0 0, .bool true, .bool false, .bool false, .slice (some ⟨sb, 0, none⟩) 1 1, .int .i64 2, .bool false, .bool false, .string ⟨#[51]⟩, .int .i64 0, .string ⟨#[]⟩, .slice none 0 0, .slice none 0 0, .bool false, .bool false, .bool false, .slice none 0 0, .string ⟨#[]⟩] 47 (0, 0)) := al_new _ _ _ rfl
  have HNew := hide hnew
  clear hC hA hR hN hb0 hnew
  go_enter Tryz.func21, Tryz.ntmps21
  go_wp2_with fail
  refine (unhide CG _).mono ?_
  rintro e w1 ⟨rfl, h1⟩
  have HB1 := hide ((unhide HB0 _).trans (h1.mono (unhide HB0 _).size))
  have hru := (h1.block _ (blk_lt (unhide HNew))).trans (unhide HNew)
  have hN1 := (unhide HN)
  have r0 : w1.cell? ⟨w.heap.size, 0, none⟩ = some (.int .i64 15) := blk_cell hru 0
  have r1 : w1.cell? ⟨w.heap.size, 1, none⟩ = some (.slice none 0 0) := blk_cell hru 1
  have r2 : w1.cell? ⟨w.heap.size, 2, none⟩ = some (.bool true) := blk_cell hru 2
  have r3 : w1.cell? ⟨w.heap.size, 3, none⟩ = some (.bool false) := blk_cell hru 3
  have r4 : w1.cell? ⟨w.heap.size, 4, none⟩ = some (.bool false) := blk_cell hru 4
  have r5 : w1.cell? ⟨w.heap.size, 5, none⟩ = some (.slice (some ⟨sb, 0, none⟩) 1 1) := blk_cell hru 5
  have r6 : w1.cell? ⟨w.heap.size, 6, none⟩ = some (.int .i64 2) := blk_cell hru 6
  have r7 : w1.cell? ⟨w.heap.size, 7, none⟩ = some (.bool false) := blk_cell hru 7
  have r8 : w1.cell? ⟨w.heap.size, 8, none⟩ = some (.bool false) := blk_cell hru 8
  have r9 : w1.cell? ⟨w.heap.size, 9, none⟩ = some (.string ⟨#[51]⟩) := blk_cell hru 9
  have r10 : w1.cell? ⟨w.heap.size, 10, none⟩ = some (.int .i64 0) := blk_cell hru 10
  have r11 : w1.cell? ⟨w.heap.size, 11, none⟩ = some (.string ⟨#[]⟩) := blk_cell hru 11
  have r12 : w1.cell? ⟨w.heap.size, 12, none⟩ = some (.slice none 0 0) := blk_cell hru 12
  have r13 : w1.cell? ⟨w.heap.size, 13, none⟩ = some (.slice none 0 0) := blk_cell hru 13
  have r14 : w1.cell? ⟨w.heap.size, 14, none⟩ = some (.bool false) := blk_cell hru 14
  have r15 : w1.cell? ⟨w.heap.size, 15, none⟩ = some (.bool false) := blk_cell hru 15
  have r16 : w1.cell? ⟨w.heap.size, 16, none⟩ = some (.bool false) := blk_cell hru 16
  have r17 : w1.cell? ⟨w.heap.size, 17, none⟩ = some (.slice none 0 0) := blk_cell hru 17
  have r18 : w1.cell? ⟨w.heap.size, 18, none⟩ = some (.string ⟨#[]⟩) := blk_cell hru 18
  have hrl := blk_lt hru
  have hA1 := (unhide HA).keep (unhide HB1)
  have hal := blk_lt hA1
  have x0 : w1.cell? ⟨ab, 0, none⟩ = some (.slice (some ⟨n + 8, 0, none⟩) 43 43) := blk_cell hA1 0
  have hR1 := ((unhide HB1).block _ (blk_lt (unhide HR))).trans (unhide HR)
  have htl := blk_lt hR1
  obtain ⟨e0, e1, e2, e3⟩ := row15 n
  have y0 : w1.cell? ⟨n + 8, 60, none⟩ = some (.string ⟨#[78, 117, 109, 101, 114, 105, 99, 69, 113, 117, 97, 108, 115]⟩) := (blk_cell hR1 60).trans e0
  have y1 : w1.cell? ⟨n + 8, 61, none⟩ = some (.func (.func 45) #[] #[.pointer (some ⟨n + 2, 0, none⟩)]) := (blk_cell hR1 61).trans e1
  have y2 : w1.cell? ⟨n + 8, 62, none⟩ = some (.func (.func 28) #[.agg #[.func (.func 45) #[] #[.pointer (some ⟨n + 2, 0, none⟩)], .func (.func 24) #[] #[]]] #[]) := (blk_cell hR1 62).trans e2
  have y3 : w1.cell? ⟨n + 8, 63, none⟩ = some (.bool false) := (blk_cell hR1 63).trans e3
  have HRu := hide hru
  clear CG h1 hN1 hA1 hR1 hru e0 e1 e2 e3 HNew
  go_upto_region 16 with fail
  go_cut [10] from 13 (fun s10 wx => s10 = .pointer (some ⟨w1.heap.size + 1, 0, none⟩) ∧ EW w1 wx n)
  case first =>
    as_aux_lemma =>
      go_region
      all_goals go_wp2_with fail
      all_goals go_meet
      all_goals exact ⟨rfl, (EW.start w1 n).drew⟩
  case rest =>
    clear x0 y0 y1 y2 y3 hal htl
    obtain ⟨rfl, hE⟩ := hcut
    have hB2 := (unhide HB1).trans (hE.below.mono (unhide HB1).size)
    have hN2 := keepC' hB2 (unhide HN)
    have HE := hide hE
    have HB2 := hide hB2
    have HN2 := hide hN2
    have HRb := hide hE.below
    clear hE hB2 hN2 HB1 HN HA HR HB0 r0 r1 r2 r3 r4 r5 r6 r7 r8 r9 r10 r11 r12 r13 r14 r15 r16 r17 r18
    have hfe := fun u : World => fun_nil (.func 28) #[.agg #[.func (.func 45) #[] #[.pointer (some ⟨n + 2, 0, none⟩)], .func (.func 24) #[] #[]]] #[] u
    as_aux_lemma =>
      have o0 : wc.cell? ⟨w1.heap.size + 1, 0, none⟩ = some (.string ⟨#[78, 117, 109, 101, 114, 105, 99, 69, 113, 117, 97, 108, 115]⟩) := blk_cell (unhide HE).o 0
      have o1 : wc.cell? ⟨w1.heap.size + 1, 1, none⟩ = some (.func (.func 45) #[] #[.pointer (some ⟨n + 2, 0, none⟩)]) := blk_cell (unhide HE).o 1
      have o2 : wc.cell? ⟨w1.heap.size + 1, 2, none⟩ = some (.func (.func 28) #[.agg #[.func (.func 45) #[] #[.pointer (some ⟨n + 2, 0, none⟩)], .func (.func 24) #[] #[]]] #[]) := blk_cell (unhide HE).o 2
      have o3 : wc.cell? ⟨w1.heap.size + 1, 3, none⟩ = some (.bool false) := blk_cell (unhide HE).o 3
      have z1 := blk_lt (unhide HE).v
      have z2 := blk_lt (unhide HE).o
      go_upto_region 19 with fail
      go_cut [11, 12] from 13 (fun s11 s12 wx => ∃ w3 : World, s11 = .pointer (some ⟨w3.heap.size, 0, none⟩) ∧ s12 = .nilIface ∧ EW w1 wx n ∧ V8 wx w3.heap.size #[.int .i64 2, .bool false, .bool false, .string ⟨#[51]⟩, .int .i64 0, .string ⟨#[]⟩, .slice none 0 0, .slice none 0 0] ∧ Below wc.heap.size wc wx)
      case first =>
        have hLr := hide (range0 (cs := [.int .i64 15, .slice none 0 0, .bool true, .bool false, .bool false, .slice (some ⟨sb, 0, none⟩) 1 1, .int .i64 2, .bool false, .bool false, .string ⟨#[51]⟩, .int .i64 0, .string ⟨#[]⟩, .slice none 0 0, .slice none 0 0, .bool false, .bool false, .bool false, .slice none 0 0, .string ⟨#[]⟩]) (((unhide HRb).block _ (blk_lt (unhide HRu))).trans (unhide HRu)))
        have hLo := hide (range0 (cs := [.string ⟨#[78, 117, 109, 101, 114, 105, 99, 69, 113, 117, 97, 108, 115]⟩, .func (.func 45) #[] #[.pointer (some ⟨n + 2, 0, none⟩)], .func (.func 28) #[.agg #[.func (.func 45) #[] #[.pointer (some ⟨n + 2, 0, none⟩)], .func (.func 24) #[] #[]]] #[], .bool false]) (unhide HE).o)
        clear HRu HRb o0 o1 o2 o3
        as_aux_lemma =>
          refine wp_region_lit ?_
          refine wpl_val (v := .pointer (some ⟨ab, 0, none⟩)) (w' := wc) rfl rfl ?_
          refine wpList_load_mid rfl 47 _ rfl w.heap.size 0 rfl _ _ (unhide hLr) Tryz.underlying47 rfl (by kernel_rfl) ?_
          refine wpList_load_mid rfl 53 _ rfl (w1.heap.size + 1) 0 rfl _ _ (unhide hLo) Tryz.underlying53 rfl (by kernel_rfl) ?_
          go_wp2_with fail
          refine (unhide CO _ (unhide HN2)).mono ?_
          rintro e w3 ⟨rfl, h3⟩
          have hE3 := (unhide HE).keep h3
          have hTb := (Below.refl w3.heap.size w3).alloc (Nat.le_refl _) (.cells #[.int .i64 2, .bool false, .bool false, .string ⟨#[51]⟩, .int .i64 0, .string ⟨#[]⟩, .slice none 0 0, .slice none 0 0] 34)
          have hE4 := hide (hE3.keep hTb)
          have hT := hide (al_new w3 #[.int .i64 2, .bool false, .bool false, .string ⟨#[51]⟩, .int .i64 0, .string ⟨#[]⟩, .slice none 0 0, .slice none 0 0] 34 rfl)
          have hB4 := hide (h3.trans (hTb.mono h3.size))
          clear CO CI CE HE hE3 hTb h3 hLr hLo
          as_aux_lemma =>
            go_wp2_with fail
            go_meet
            exact ⟨w3, rfl, rfl, unhide hE4, unhide hT, unhide hB4⟩
      case rest =>
        obtain ⟨w3, rfl, rfl, hE4, hT, hB4⟩ := hcut
        clear o0 o1 o2 o3 z1 z2 hfe CO HRu HRb HE
        have HB4 := hide ((unhide HB2).trans (hB4.mono (unhide HB2).size))
        have HN4 := hide (keepC' hB4 (unhide HN2))
        have HE4 := hide hE4
        have HT := hide hT
        have v0 : wc.cell? ⟨w1.heap.size, 0, none⟩ = some (.int .i64 2) := blk_cell hE4.v 0
        have v1 : wc.cell? ⟨w1.heap.size, 1, none⟩ = some (.bool false) := blk_cell hE4.v 1
        have v2 : wc.cell? ⟨w1.heap.size, 2, none⟩ = some (.bool false) := blk_cell hE4.v 2
        have v3 : wc.cell? ⟨w1.heap.size, 3, none⟩ = some (.string ⟨#[51]⟩) := blk_cell hE4.v 3
        have v4 : wc.cell? ⟨w1.heap.size, 4, none⟩ = some (.int .i64 0) := blk_cell hE4.v 4
        have v5 : wc.cell? ⟨w1.heap.size, 5, none⟩ = some (.string ⟨#[]⟩) := blk_cell hE4.v 5
        have v6 : wc.cell? ⟨w1.heap.size, 6, none⟩ = some (.slice none 0 0) := blk_cell hE4.v 6
        have v7 : wc.cell? ⟨w1.heap.size, 7, none⟩ = some (.slice none 0 0) := blk_cell hE4.v 7
        have o0 : wc.cell? ⟨w1.heap.size + 1, 0, none⟩ = some (.string ⟨#[78, 117, 109, 101, 114, 105, 99, 69, 113, 117, 97, 108, 115]⟩) := blk_cell hE4.o 0
        have o1 : wc.cell? ⟨w1.heap.size + 1, 1, none⟩ = some (.func (.func 45) #[] #[.pointer (some ⟨n + 2, 0, none⟩)]) := blk_cell hE4.o 1
        have o2 : wc.cell? ⟨w1.heap.size + 1, 2, none⟩ = some (.func (.func 28) #[.agg #[.func (.func 45) #[] #[.pointer (some ⟨n + 2, 0, none⟩)], .func (.func 24) #[] #[]]] #[]) := blk_cell hE4.o 2
        have o3 : wc.cell? ⟨w1.heap.size + 1, 3, none⟩ = some (.bool false) := blk_cell hE4.o 3
        have s0 : wc.cell? ⟨w3.heap.size, 0, none⟩ = some (.int .i64 2) := blk_cell hT 0
        have s1 : wc.cell? ⟨w3.heap.size, 1, none⟩ = some (.bool false) := blk_cell hT 1
        have s2 : wc.cell? ⟨w3.heap.size, 2, none⟩ = some (.bool false) := blk_cell hT 2
        have s3 : wc.cell? ⟨w3.heap.size, 3, none⟩ = some (.string ⟨#[51]⟩) := blk_cell hT 3
        have s4 : wc.cell? ⟨w3.heap.size, 4, none⟩ = some (.int .i64 0) := blk_cell hT 4
        have s5 : wc.cell? ⟨w3.heap.size, 5, none⟩ = some (.string ⟨#[]⟩) := blk_cell hT 5
        have s6 : wc.cell? ⟨w3.heap.size, 6, none⟩ = some (.slice none 0 0) := blk_cell hT 6
        have s7 : wc.cell? ⟨w3.heap.size, 7, none⟩ = some (.slice none 0 0) := blk_cell hT 7
        clear hE4 hT hB4 HB2 HN2
        as_aux_lemma =>
          go_wp2_with fail
          refine (unhide CI _ (unhide HN4)).mono ?_
          rintro e w5 ⟨rfl, h5⟩
          have hE5 := (unhide HE4).keep h5
          have hT5 := (h5.block _ (blk_lt (unhide HT))).trans (unhide HT)
          have HB5 := hide ((unhide HB4).trans (h5.mono (unhide HB4).size))
          clear v0 s0 v1 s1 v2 s2 v3 s3 v4 s4 v5 s5 v6 s6 v7 s7 o0 o1 o2 o3
          have v0 : w5.cell? ⟨w1.heap.size, 0, none⟩ = some (.int .i64 2) := blk_cell hE5.v 0
          have v1 : w5.cell? ⟨w1.heap.size, 1, none⟩ = some (.bool false) := blk_cell hE5.v 1
          have v2 : w5.cell? ⟨w1.heap.size, 2, none⟩ = some (.bool false) := blk_cell hE5.v 2
          have v3 : w5.cell? ⟨w1.heap.size, 3, none⟩ = some (.string ⟨#[51]⟩) := blk_cell hE5.v 3
          have v4 : w5.cell? ⟨w1.heap.size, 4, none⟩ = some (.int .i64 0) := blk_cell hE5.v 4
          have v5 : w5.cell? ⟨w1.heap.size, 5, none⟩ = some (.string ⟨#[]⟩) := blk_cell hE5.v 5
          have v6 : w5.cell? ⟨w1.heap.size, 6, none⟩ = some (.slice none 0 0) := blk_cell hE5.v 6
          have v7 : w5.cell? ⟨w1.heap.size, 7, none⟩ = some (.slice none 0 0) := blk_cell hE5.v 7
          have o0 : w5.cell? ⟨w1.heap.size + 1, 0, none⟩ = some (.string ⟨#[78, 117, 109, 101, 114, 105, 99, 69, 113, 117, 97, 108, 115]⟩) := blk_cell hE5.o 0
          have o1 : w5.cell? ⟨w1.heap.size + 1, 1, none⟩ = some (.func (.func 45) #[] #[.pointer (some ⟨n + 2, 0, none⟩)]) := blk_cell hE5.o 1
          have o2 : w5.cell? ⟨w1.heap.size + 1, 2, none⟩ = some (.func (.func 28) #[.agg #[.func (.func 45) #[] #[.pointer (some ⟨n + 2, 0, none⟩)], .func (.func 24) #[] #[]]] #[]) := blk_cell hE5.o 2
          have o3 : w5.cell? ⟨w1.heap.size + 1, 3, none⟩ = some (.bool false) := blk_cell hE5.o 3
          have s0 : w5.cell? ⟨w3.heap.size, 0, none⟩ = some (.int .i64 2) := blk_cell hT5 0
          have s1 : w5.cell? ⟨w3.heap.size, 1, none⟩ = some (.bool false) := blk_cell hT5 1
          have s2 : w5.cell? ⟨w3.heap.size, 2, none⟩ = some (.bool false) := blk_cell hT5 2
          have s3 : w5.cell? ⟨w3.heap.size, 3, none⟩ = some (.string ⟨#[51]⟩) := blk_cell hT5 3
          have s4 : w5.cell? ⟨w3.heap.size, 4, none⟩ = some (.int .i64 0) := blk_cell hT5 4
          have s5 : w5.cell? ⟨w3.heap.size, 5, none⟩ = some (.string ⟨#[]⟩) := blk_cell hT5 5
          have s6 : w5.cell? ⟨w3.heap.size, 6, none⟩ = some (.slice none 0 0) := blk_cell hT5 6
          have s7 : w5.cell? ⟨w3.heap.size, 7, none⟩ = some (.slice none 0 0) := blk_cell hT5 7
          clear hE5 hT5 h5 HT HN4 HE4 HB4 CI
          as_aux_lemma =>
            go_wp2_with fail
            refine (unhide CE _).mono ?_
            rintro e w6 ⟨rfl, h6⟩
            have HB6 := hide ((unhide HB5).trans (h6.mono (unhide HB5).size))
            clear CE h6 HB5 v0 s0 v1 s1 v2 s2 v3 s3 v4 s4 v5 s5 v6 s6 v7 s7 o0 o1 o2 o3
            as_aux_lemma =>
              go_wp2
              go_ret2
              exact ⟨rfl, unhide HB6⟩
end Go.Proofs.YthpnclhfooileaaGreatDoor.ru
