/- The reference of package rule: Match, walked. -/
import Derived.Test.YthpnclhfooileaaGreatDoorJe
import Derived.Laws.MakeOwn
namespace Go.Proofs.YthpnclhfooileaaGreatDoor.ru
open Go.RowKit

theorem infoB : (Tryz.prog.info? 4).map (fun i => (i.zero, i.size, i.bytes)) = some (some (.bool false), 1, 1) := by kernel_rfl
/-- A new row of truths: none holds. -/
theorem make_bools (n : Nat) (h : n ≤ 1099511627777) (u : World) : (Instr.makeSlice 61 (.int .i64 (n : Int)) (.int .i64 (n : Int))).run Tryz.prog u = .ok (.slice (some ⟨u.heap.size, 0, none⟩) n n) (u.alloc (.cells (rowA n (fun _ => false)) 4)) := by
  obtain ⟨i0, hi, hz0, hz1, hz2⟩ := info_parts infoB
  have := run_make (P := Tryz.prog) u 61 4 i0 (.bool false) Tryz.underlying61 hi hz0 .i64 .i64 (n : Int) (n : Int) (by omega) (Int.le_refl _) (by rw [hz2]; omega) (by omega)
  have e : madeCells #[.bool false] n = rowA n (fun _ => false) := by
    apply Array.ext'
    rw [toList_madeCells_one, rowA_new]
    simp
  have e2 : ((n : Nat) : Int).toNat = n := by omega
  rw [e2] at this
  simpa [hz1, Value.cells, e] using this
theorem pasF_congr {l : List (Bool × UInt8)} {f f' : Nat → Bool} (h : ∀ j, j < l.length + 1 → f j = f' j) (j : Nat) (hj : j < l.length + 1) : pasF l f j = pasF l f' j := by
  induction j with
  | zero => exact h 0 hj
  | succ j ih => show (f (j + 1) || (pasF l f j && anyAt l j)) = (f' (j + 1) || (pasF l f' j && anyAt l j)); rw [h _ hj, ih (by omega)]
theorem PS.below {w w' : World} {v : Value} {l : List (Bool × UInt8)} {p : Nat} (h : PS w v l p) (hb : Below w.heap.size w w') (hp : l.length = 0 ∨ p < w.heap.size) : PS w' v l p := by
  rcases h with h | ⟨cap, h1, h2⟩
  · exact Or.inl h
  · refine Or.inr ⟨cap, h1, fun j hj => ?_⟩
    have hp' : p < w.heap.size := hp.resolve_left (by omega)
    have e : ∀ o, w'.cell? ⟨p, o, none⟩ = w.cell? ⟨p, o, none⟩ := fun o => hb.cell (p := ⟨p, o, none⟩) hp'
    rw [e, e]; exact h2 j hj
theorem QR.new (w : World) (n : Nat) (f : Nat → Bool) : QR (w.alloc (.cells (rowA n f) 4)) w.heap.size n f := Array.getElem?_push_size
theorem upd_below {B g : Nat} {w0 w w' : World} (h : Upd g w w') (hb : Below B w0 w) (hg : B ≤ g) : Below B w0 w' := hb.trans (h.below hg)
set_option maxRecDepth 100000 in
set_option maxHeartbeats 6400000 in
theorem rmatch_any (p s : ByteArray) (w : World) (hp : p.size ≤ 1099511627776) (hs : s.size ≤ 1099511627776) :
    Calls Tryz.prog 10 #[.string p, .string s] w fun e w' => e = .returned (.bool (mch (prt p.data.toList) s.data.toList)) ∧ Below w.heap.size w w' := by
  have P := hide (rparts_any p w hp)
  have hL : (prt p.data.toList).length ≤ 1099511627776 := by have := prt_len p.data.toList; rw [blen] at this; omega
  have HE := hide (Mk_end (prt p.data.toList) s.data.toList)
  have H0 := hide (fun j hj => Mk_0 (prt p.data.toList) s.data.toList j hj)
  have HS := hide (fun k hk j hj => Mk_step (prt p.data.toList) s.data.toList k hk j hj)
  have hsl := blen s
  generalize prt p.data.toList = l at *
  obtain ⟨res, hres⟩ : ∃ r, mch l s.data.toList = r := ⟨_, rfl⟩
  rw [hres] at HE ⊢
  clear hres
  go_enter Tryz.func10, Tryz.ntmps10
  go_wp2_with fail
  refine (unhide P).mono ?_
  rintro e w1 ⟨v, rfl, hO, hb1⟩
  obtain ⟨pb, hPS, hpb⟩ := ps_of hO
  obtain ⟨oa, cap, rfl, hoa⟩ := hPS.form
  have hpb' : l.length = 0 ∨ pb < w1.heap.size := hpb.imp (fun z => by rw [z]; rfl) id
  have hmk : ∀ u : World, (Instr.makeSlice 61 (.int .i64 ((l.length : Int) + 1)) (.int .i64 ((l.length : Int) + 1))).run Tryz.prog u = .ok (.slice (some ⟨u.heap.size, 0, none⟩) (l.length + 1) (l.length + 1)) (u.alloc (.cells (rowA (l.length + 1) (fun _ => false)) 4)) := fun u => make_bools (l.length + 1) (by omega) u
  have ha : Below w1.heap.size w1 (w1.alloc (.cells (rowA (l.length + 1) (fun x => if x = 0 then true else false)) 4)) := (Below.refl _ _).alloc (Nat.le_refl _) _
  have HQ0 := hide (QR.new w1 (l.length + 1) (fun x => if x = 0 then true else false))
  have x0 := (QR.new w1 (l.length + 1) (fun _ => false)).cell 0 (by omega)
  have x1 := (QR.new w1 (l.length + 1) (fun _ => false)).free 0
  have HPa := hide (hPS.below ha hpb')
  have HBa := hide (hb1.trans (ha.mono hb1.size))
  have hz1 : (w1.alloc (.cells (rowA (l.length + 1) (fun x => if x = 0 then true else false)) 4)).heap.size = w1.heap.size + 1 := World.size_alloc _ _
  have hsz1 := hb1.size
  clear P hO ha hPS hb1 hpb
  go_wp2_with fail
  rw [rowA_set]
  generalize w1.alloc (.cells (rowA (l.length + 1) (fun x => if x = 0 then true else false)) 4) = w2 at *
  refine (rpassed_any l _ pb w1.heap.size _ w2 hL (unhide HPa) (unhide HQ0) (hpb'.imp id (fun z => by omega))).mono ?_
  rintro e w3 ⟨rfl, hq3, hu3⟩
  have HQ3 := hide (hq3.congr (f' := Mk l s.data.toList 0) (fun j hj => by rw [unhide H0 j (by omega)]; exact pasF_congr (fun i _ => by by_cases q : i = 0 <;> simp [q]) j hj))
  have HP3 := hide ((unhide HPa).upd hu3 (hpb'.imp id (fun z => by omega)))
  have HB3 := hide (upd_below hu3 (unhide HBa) hsz1)
  have hz3 : w1.heap.size + 1 ≤ w3.heap.size := by rw [hu3.size]; omega
  clear HQ0 HPa HBa hq3 hu3 H0 x0 x1 hz1
  go_wp2
  go_loopw [6, 7] (fun mv i wr => ∃ (k g : Nat), i = .int .i64 (k : Int) ∧ k ≤ s.size ∧ mv = .slice (some ⟨g, 0, none⟩) (l.length + 1) (l.length + 1) ∧ w1.heap.size ≤ g ∧ Hid (QR wr g (l.length + 1) (Mk l s.data.toList k)) ∧ Hid (PS wr (.slice oa l.length cap) l pb) ∧ Hid (Below w.heap.size w wr) ∧ w1.heap.size ≤ wr.heap.size) (fun _ i _ => s.size - (intOf i).toNat)
  case atStart => exact ⟨0, w1.heap.size, rfl, Nat.zero_le _, rfl, Nat.le_refl _, HQ3, HP3, HB3, by omega⟩
  case round =>
    clear HQ3 HP3 HB3 hz3
    obtain ⟨k, g, rfl, hk, rfl, hg, HQ, HP, HB, hz⟩ := hrel
    by_cases hlt : k < s.size
    · have hlt' : (k : Int) < (s.size : Int) := by omega
      have ha : Below wr.heap.size wr (wr.alloc (.cells (rowA (l.length + 1) (fun _ => false)) 4)) := (Below.refl _ _).alloc (Nat.le_refl _) _
      have HQa := hide ((unhide HQ).below ha)
      have HPa := hide ((unhide HP).below ha (hpb'.imp id (fun z => by omega)))
      have HBa := hide ((unhide HB).trans (ha.mono (unhide HB).size))
      have HN0 := hide ((QR.new wr (l.length + 1) (fun _ => false)).congr (f' := stK l s[k] (Mk l s.data.toList k) 0) (fun j _ => stK_0 _ _ _ j))
      have hza : (wr.alloc (.cells (rowA (l.length + 1) (fun _ => false)) 4)).heap.size = wr.heap.size + 1 := World.size_alloc _ _
      have hgl := (unhide HQ).lt
      have hk' : k < s.data.toList.length := by omega
      have HSk := hide (fun j hj => unhide HS k hk' j hj)
      have hsk : s.data.toList[k] = s[k] := by simp; rfl
      rw [hsk] at HSk
      clear ha HQ HP HB HS HE hsk
      generalize Mk l s.data.toList k = M at *
      obtain ⟨M', hM'⟩ : ∃ M', Mk l s.data.toList (k + 1) = M' := ⟨_, rfl⟩
      rw [hM'] at HSk
      have HM := hide hM'
      clear hM'
      go_wp2
      generalize wr.alloc (.cells (rowA (l.length + 1) (fun _ => false)) 4) = wa at *
      generalize hgn : wr.heap.size = gn at *
      go_loopw [9] (fun i wi => ∃ q : Nat, i = .int .i64 (q : Int) ∧ q ≤ l.length ∧ Hid (QR wi gn (l.length + 1) (stK l s[k] M q)) ∧ Hid (Upd gn wa wi)) (fun i _ => l.length - (intOf i).toNat)
      case atStart => exact ⟨0, rfl, Nat.zero_le _, HN0, Upd.refl _ _⟩
      case round =>
        clear HN0
        obtain ⟨q, rfl, hq, HN0, HU⟩ := hrel
        by_cases hqn : q < l.length
        · have hqn' : (q : Int) < (l.length : Int) := by omega
          have hoa' := hoa.resolve_left (by omega)
          subst hoa'
          have hpb2 := hpb'.resolve_left (by omega)
          obtain ⟨c0, c1⟩ := (PS.upd (unhide HPa) (unhide HU) (Or.inr (by omega))).cells q hqn
          have cm := (QR.upd (unhide HQa) (unhide HU) (by omega)).cell q (by omega)
          have n0 := (unhide HN0).cell q (by omega)
          have n1 := (unhide HN0).cell (q + 1) (by omega)
          have f0 := (unhide HN0).free q
          have f1 := (unhide HN0).free (q + 1)
          have ea : anyAt l q = l[q].1 := by unfold anyAt; rw [List.getElem?_eq_getElem hqn]
          have el : litAt l q s[k] = (!l[q].1 && l[q].2 == s[k]) := by unfold litAt; rw [List.getElem?_eq_getElem hqn]
          have HX := hide (fun j => stK_next l s[k] M q j)
          rw [ea, el] at HX
          have hbq : ((l[q].2.toNat : Int) == (s[k].toNat : Int)) = (l[q].2 == s[k]) := by
            by_cases z : l[q].2 = s[k]
            · rw [z]; simp
            · have : ¬ l[q].2.toNat = s[k].toNat := fun y => z (UInt8.toNat_inj.1 y)
              rw [beq_eq_false_iff_ne.2 (by omega), beq_eq_false_iff_ne.2 z]
          have hbk := s[k].toNat_lt
          have hbl := l[q].2.toNat_lt
          generalize hb0 : stK l s[k] M q q = y0 at n0
          generalize hb1 : stK l s[k] M q (q + 1) = y1 at n1
          clear ea el hb0 hb1
          generalize l[q].1 = a at *
          generalize hcq : l[q].2 = cq at *
          generalize hsk2 : s[k] = ck at *
          generalize hm : M q = b at *
          cases b
          · have HN := hide ((unhide HN0).congr (f' := stK l ck M (q + 1)) (fun j _ => by rw [unhide HX]; simp))
            clear HX HN0 n0 n1 f0 f1
            go_wp2_with fail
            go_quiet (fail)
            go_wp2
            exact ⟨⟨q + 1, by go_num, by omega, HN, (unhide HU).trans (Upd.drewN _ _ _)⟩, by simp [intOf]; omega⟩
          · cases a
            · cases hcc : (cq == ck)
              · rw [hcc] at hbq HX
                have HN := hide ((unhide HN0).congr (f' := stK l ck M (q + 1)) (fun j _ => by rw [unhide HX]; simp))
                clear HX HN0 n0 n1 f0 f1 hcc
                go_wp2_with fail
                go_quiet (fail)
                go_wp2
                exact ⟨⟨q + 1, by go_num, by omega, HN, (unhide HU).trans (Upd.drewN _ _ _)⟩, by simp [intOf]; omega⟩
              · rw [hcc] at hbq HX
                have HN := hide (fun nq => (QR.set (w := wr.drewN nq) (unhide HN0) (q + 1) true).congr (f' := stK l ck M (q + 1)) (fun j _ => by rw [unhide HX]; by_cases z : j = q + 1 <;> simp [z]))
                clear HX HN0 n0 hcc
                go_wp2_with fail
                go_quiet (fail)
                go_wp2
                exact ⟨⟨q + 1, by go_num, by omega, unhide HN _, ((unhide HU).trans (Upd.drewN _ _ _)).trans (Upd.setCell _ _ _ _)⟩, by simp [intOf]; omega⟩
            · have hu1 := Upd.setCell gn q wr (.bool true)
              have e : ∀ b o, b ≠ gn → (wr.setCell ⟨gn, q, none⟩ (.bool true)).cell? ⟨b, o, none⟩ = wr.cell? ⟨b, o, none⟩ := fun b o hb => by simp only [World.cell?, hu1.block b hb]
              have cm' := (e g q (by omega)).trans cm
              have c0' := (e pb (q * 2) (by omega)).trans c0
              have HN := hide ((QR.set (unhide HN0) q true).congr (f' := stK l ck M (q + 1)) (fun j _ => by rw [unhide HX]; by_cases z : j = q <;> simp [z]))
              have HU2 := hide ((unhide HU).trans hu1)
              clear HX HN0 n1 f1 hu1 e
              go_wp2_with fail
              go_quiet (fail)
              go_wp2
              exact ⟨⟨q + 1, by go_num, by omega, HN, (unhide HU2).trans (Upd.drewN _ _ _)⟩, by simp [intOf]; omega⟩
        · have hqn' : ¬ (q : Int) < (l.length : Int) := by omega
          have hql : q = l.length := by omega
          subst hql
          have hpg : l.length = 0 ∨ pb ≠ gn := hpb'.imp id (fun z => by omega)
          have PC := hide (rpassed_any l _ pb gn _ wr hL (PS.upd (unhide HPa) (unhide HU) hpg) (unhide HN0) hpg)
          have HPw := hide (PS.upd (unhide HPa) (unhide HU) hpg)
          have HBw := hide (upd_below (unhide HU) (unhide HBa) (by omega))
          have hzw := (unhide HU).size
          clear HN0 HU HPa HBa HQa
          go_wp2_with fail
          refine (unhide PC).mono ?_
          rintro e w4 ⟨rfl, hq4, hu4⟩
          have HQ4 := hide (hq4.congr (f' := M') (fun j hj => by rw [unhide HSk j (by omega)]; exact pasF_congr (fun i hi => stK_end l _ M i hi) j hj))
          have HP4 := hide (PS.upd (unhide HPw) hu4 hpg)
          have HB4 := hide (upd_below hu4 (unhide HBw) (by omega))
          have hz4 := hu4.size
          clear PC HPw HBw hq4 hu4 HSk
          go_wp2
          exact ⟨⟨k + 1, gn, by go_num, by omega, rfl, by omega, by rw [unhide HM]; exact HQ4, HP4, HB4, by omega⟩, by simp [intOf]; omega⟩
    · have hlt' : ¬ (k : Int) < (s.size : Int) := by omega
      have hks : k = s.size := by omega
      have c0 := (unhide HQ).cell l.length (by omega)
      rw [hks, ← hsl, unhide HE] at c0
      clear HQ HP HS HE hks
      go_wp2
      go_ret
      exact ⟨rfl, unhide HB⟩
end Go.Proofs.YthpnclhfooileaaGreatDoor.ru
