/- StampBack: it answers true, if the calls answer as is asked. -/
import Derived.Test.YtemcilikchlaiaaDoorMd
import Derived.Test.YtemcilikchlaiaaDoorKq
import Derived.Deep.Cut
namespace Go.Proofs.YtemcilikchlaiaaDoor.st
open Go.RowKit

theorem read_size {s : ByteArray} {a b : Int} (h : parseT s = some (a, b)) : 20 ≤ s.size := by
  obtain ⟨_, k, n, o, h1, h2, _, _⟩ := parse_parts h
  have hk := frac_in h1
  unfold offI at h2
  split at h2
  · rename_i q; omega
  · split at h2
    · rename_i q; omega
    · cases h2
theorem unsame_iv (w : World) (a b : Int) : (binOp .neq 24 (.agg #[.int .i64 a, .int .i64 b]) (.agg #[.int .i64 a, .int .i64 b])).run Tryd.prog w = .ok (.bool false) w := by
  rw [neq_iv]
  simp
theorem same_iv' (w : World) (a b : Int) : (binOp .eql 24 (.agg #[.int .i64 a, .int .i64 b]) (.agg #[.int .i64 a, .int .i64 b])).run Tryd.prog w = .ok (.bool true) w := by
  rw [eq_iv]
  simp
theorem getE (s : ByteArray) (i : Nat) (h : i < s.size) (c : UInt8) : (((s[i].toNat : Int)) == (c.toNat : Int)) = decide (s.data.toList[i]? = some c) := by
  rw [getq s i h]
  by_cases q : s[i] = c
  · rw [q]; simp
  · have : ¬ (s[i].toNat : Int) = (c.toNat : Int) := fun z => q (UInt8.toNat_inj.1 (by omega))
    rw [beq_eq_false_iff_ne.2 this]
    simp [q]

set_option maxRecDepth 100000 in
set_option maxHeartbeats 3200000 in
theorem back_any (K : StampOK) (KN : NormOK) (s n : Int) (g : ByteArray) (w : World) (a : Addr) (hS : Sent w a) (hs : inI s) (hn : inI n) (hg : g.size ≤ 9223372036854775807) :
    Calls Tryd.prog 7 #[iv s n, .string g] w fun e w' => e = .returned (.bool true) ∧ Below w.heap.size w w' := by
  obtain ⟨r, hr⟩ := isText_ex s n
  have C0 := hide (fun u hu => shown_any K u a hu)
  have C1 := hide (fun u hu => K.text s n r u a hs hn hr hu)
  have C2 := hide (fun u => KN s n u hs hn)
  have C3 := hide (fun l (e : r = some l) u hu => K.parse ⟨l.toArray⟩ u a (by have := text_size (e ▸ hr); show l.toArray.size ≤ _; rw [List.size_toArray]; omega) hu)
  have HP := hide (fun l (e : r = some l) => parse_text (e ▸ hr))
  have G0 := hide (fun u hu => K.parse g u a hg hu)
  have KT := hide K.text
  have KP := hide K.parse
  generalize nSec s n = p at *
  generalize nNano s n = q at *
  simp only [iv] at C1 C2 ⊢
  have HS := hide (hS.alloc (.cells #[.int .i64 s, .int .i64 n] 24))
  have HB := hide ((Below.refl w.heap.size w).alloc (Nat.le_refl _) (.cells #[.int .i64 s, .int .i64 n] 24))
  have HT := hide (IL.new w s n)
  clear K KN hS hs hn hr
  go_enter Tryd.func7, Tryd.ntmps7
  go_wp2_with fail
  refine (unhide C0 _ (unhide HS)).mono ?_
  rintro e w1 ⟨rfl, hb1⟩
  have HB1 := hide ((unhide HB).trans (hb1.mono (unhide HB).size))
  have HS1 := hide ((unhide HS).keep hb1)
  have HT1 := hide ((unhide HT).below hb1 (unhide HT).lt)
  obtain ⟨t0, t1⟩ := (unhide HT1).cells
  clear hb1 HS C0 HB HT
  go_wp2_with fail
  refine (unhide C1 _ (unhide HS1)).mono ?_
  rintro e w2 ⟨rfl, hb2⟩
  have HB2 := hide ((unhide HB1).trans (hb2.mono (unhide HB1).size))
  have HS2 := hide ((unhide HS1).keep hb2)
  have HT2 := hide ((unhide HT1).below hb2 (unhide HT1).lt)
  clear t0 t1
  obtain ⟨t0, t1⟩ := (unhide HT2).cells
  clear hb2 HB1 HS1 C1 HT1
  obtain ⟨X, ev, bo, hXe, hXs⟩ : ∃ (X : ByteArray) (ev : Value) (bo : Bool), texE a r = .tuple #[.string X, ev] ∧ ((bo = false ∧ ev = eT a) ∨ ∃ l, bo = true ∧ r = some l ∧ X = ⟨l.toArray⟩ ∧ ev = .nilIface) := by
    cases r with
    | none => exact ⟨_, _, false, rfl, Or.inl ⟨rfl, rfl⟩⟩
    | some l => exact ⟨_, _, true, rfl, Or.inr ⟨l, rfl, rfl, rfl, rfl⟩⟩
  rw [hXe]
  have HXs := hide hXs
  clear hXe hXs
  go_wp2_with fail
  refine (unhide C2 _).mono ?_
  rintro e w3 ⟨rfl, hb3⟩
  have HB3 := hide (((unhide HB2).trans (hb3.mono (unhide HB2).size)).alloc ((unhide HB2).trans (hb3.mono (unhide HB2).size)).size (.cells #[.int .i64 p, .int .i64 q] 24))
  have HS3 := hide (((unhide HS2).keep hb3).alloc (.cells #[.int .i64 p, .int .i64 q] 24))
  have HX3 := hide (IL.new w3 p q)
  clear t0 t1 hb3 HB2 HS2 C2 HT2
  go_upto_region 4 with fail
  go_cut [29] from 20 (fun c wx => c = .bool bo ∧ wx = w3.alloc (.cells #[.int .i64 p, .int .i64 q] 24))
  case first =>
    rcases unhide HXs with ⟨rfl, rfl⟩ | ⟨l, rfl, _, _, rfl⟩
    · clear HXs
      unfold eT
      go_wp2_with fail
      go_meet
      exact ⟨rfl, rfl⟩
    · clear HXs
      go_wp2_with fail
      go_meet
      exact ⟨rfl, rfl⟩
  case rest =>
    obtain ⟨rfl, rfl⟩ := hcut
    go_upto_if 29 with fail
    go_cut [] from 20 (fun wx => Hid (Below w.heap.size w wx) ∧ Hid (Sent wx a))
    case first =>
      rcases unhide HXs with ⟨rfl, rfl⟩ | ⟨l, rfl, hl, rfl, rfl⟩
      · clear HXs
        go_wp2_with fail
        go_meet
        exact ⟨HB3, HS3⟩
      · have Q := hide (unhide C3 l hl)
        have P := unhide HP l hl
        rw [P] at Q
        simp only [parE, iv] at Q
        have hun := fun u => unsame_iv u p q
        clear HXs P hl C3 HP KT KP G0
        go_wp2_with fail
        refine (unhide Q _ (unhide HS3)).mono ?_
        rintro e w4 ⟨rfl, hb4⟩
        have HB4 := hide (((unhide HB3).trans (hb4.mono (unhide HB3).size)).alloc ((unhide HB3).trans (hb4.mono (unhide HB3).size)).size (.cells #[.int .i64 p, .int .i64 q] 24))
        have HS4 := hide (((unhide HS3).keep hb4).alloc (.cells #[.int .i64 p, .int .i64 q] 24))
        obtain ⟨x0, x1⟩ := (((unhide HX3).below hb4 (unhide HX3).lt).alloc (.cells #[.int .i64 p, .int .i64 q] 24)).cells
        obtain ⟨y0, y1⟩ := (IL.new w4 p q).cells
        clear hb4 Q HB3 HS3 HX3
        go_wp2_with fail
        go_meet
        exact ⟨HB4, HS4⟩
    case rest =>
      obtain ⟨HB4, HS4⟩ := hcut
      clear HB3 HS3 HX3 C3 HP HXs
      cases hP : parseT g with
      | none =>
        rw [hP] at G0
        simp only [parE, iv, eT] at G0
        have heq := fun u => eql_same u a
        clear KT KP hP
        go_wp2_with fail
        refine (unhide G0 _ (unhide HS4)).mono ?_
        rintro e w5 ⟨rfl, hb5⟩
        have HB5 := hide (((unhide HB4).trans (hb5.mono (unhide HB4).size)).alloc ((unhide HB4).trans (hb5.mono (unhide HB4).size)).size (.cells #[.int .i64 0, .int .i64 0] 24))
        have hS5 := (((unhide HS4).keep hb5).alloc (.cells #[.int .i64 0, .int .i64 0] 24)).n
        clear hb5 HB4 HS4 G0
        go_wp2
        go_ret
        exact ⟨rfl, unhide HB5⟩
      | some ab =>
        obtain ⟨A, B⟩ := ab
        rw [hP] at G0
        obtain ⟨iA, iB0, iB1⟩ := read_in hP
        have hg20 := read_size hP
        obtain ⟨r2, hr2⟩ := isText_ex A B
        have G1 := hide (fun u hu => unhide KT A B r2 u a iA ⟨by omega, by omega⟩ hr2 hu)
        obtain ⟨N1, N2⟩ := norm_id A B iA iB0 iB1
        have G2 := hide (fun l (e : r2 = some l) u hu => unhide KP ⟨l.toArray⟩ u a (by have := text_size (e ▸ hr2); show l.toArray.size ≤ _; rw [List.size_toArray]; omega) hu)
        have P2 := hide (fun l (e : r2 = some l) => parse_text (e ▸ hr2))
        rw [N1, N2] at P2
        have TB := hide (fun l (e : r2 = some l) hz hsh => text_back g A B l hP (e ▸ hr2) hz hsh)
        simp only [parE, iv] at G0 G1
        clear KT KP hP iA iB0 iB1 hr2 N1 N2
        go_wp2_with fail
        refine (unhide G0 _ (unhide HS4)).mono ?_
        rintro e w5 ⟨rfl, hb5⟩
        have HB5 := hide (((unhide HB4).trans (hb5.mono (unhide HB4).size)).alloc ((unhide HB4).trans (hb5.mono (unhide HB4).size)).size (.cells #[.int .i64 A, .int .i64 B] 24))
        have HS5 := hide (((unhide HS4).keep hb5).alloc (.cells #[.int .i64 A, .int .i64 B] 24))
        have HA5 := hide (IL.new w5 A B)
        obtain ⟨x0, x1⟩ := (unhide HA5).cells
        clear hb5 HB4 HS4 G0
        go_wp2_with fail
        refine (unhide G1 _ (unhide HS5)).mono ?_
        rintro e w6 ⟨rfl, hb6⟩
        have HB6 := hide ((unhide HB5).trans (hb6.mono (unhide HB5).size))
        have HS6 := hide ((unhide HS5).keep hb6)
        have HA6 := hide ((unhide HA5).below hb6 (unhide HA5).lt)
        clear hb6 HB5 HS5 HA5 G1 x0 x1
        cases r2 with
        | none =>
          simp only [texE, eT]
          have heq := fun u => eql_same u a
          have hS6 := (unhide HS6).n
          clear G2 P2 TB
          go_wp2
          go_ret
          exact ⟨rfl, unhide HB6⟩
        | some l =>
          simp only [texE]
          have Q := hide (unhide G2 l rfl)
          have P := unhide P2 l rfl
          rw [P] at Q
          simp only [parE, iv] at Q
          have TB2 := hide (unhide TB l rfl)
          have hsm := fun u => same_iv' u A B
          have hgi : (20 : Int) ≤ (g.size : Int) := by omega
          have e90 := getE g (g.size - 1) (by omega) 90
          have e48 := getE g (g.size - 2) (by omega) 48
          clear P G2 P2 TB
          by_cases c1 : g.data.toList[g.size - 1]? = some 90
          · have f1 : (((g[g.size - 1].toNat : Int)) == 90) = true := e90.trans (decide_eq_true c1)
            by_cases c2 : (20 : Int) < (g.size : Int)
            · by_cases c3 : g.data.toList[g.size - 2]? = some 48
              · have f3 : (((g[g.size - 2].toNat : Int)) != 48) = false := by unfold bne; rw [show (((g[g.size - 2].toNat : Int)) == 48) = true from e48.trans (decide_eq_true c3)]; rfl
                clear TB2 e90 e48 c1 c3
                go_wp2_with fail
                refine (unhide Q _ (unhide HS6)).mono ?_
                rintro e w7 ⟨rfl, hb7⟩
                have HB7 := hide (((unhide HB6).trans (hb7.mono (unhide HB6).size)).alloc ((unhide HB6).trans (hb7.mono (unhide HB6).size)).size (.cells #[.int .i64 A, .int .i64 B] 24))
                obtain ⟨x0, x1⟩ := (((unhide HA6).below hb7 (unhide HA6).lt).alloc (.cells #[.int .i64 A, .int .i64 B] 24)).cells
                obtain ⟨y0, y1⟩ := (IL.new w7 A B).cells
                clear hb7 HB6 HS6 HA6 Q
                go_wp2
                go_ret
                exact ⟨by simp, unhide HB7⟩
              · have f3 : (((g[g.size - 2].toNat : Int)) != 48) = true := by unfold bne; rw [show (((g[g.size - 2].toNat : Int)) == 48) = false from e48.trans (decide_eq_false c3)]; rfl
                have hl := unhide TB2 c1 (Or.inr c3)
                have hx : (⟨l.toArray⟩ : ByteArray) = g := by apply ByteArray.ext; rw [hl]
                rw [hx] at Q ⊢
                clear TB2 e90 e48 c1 c3 hl hx
                go_wp2_with fail
                refine (unhide Q _ (unhide HS6)).mono ?_
                rintro e w7 ⟨rfl, hb7⟩
                have HB7 := hide (((unhide HB6).trans (hb7.mono (unhide HB6).size)).alloc ((unhide HB6).trans (hb7.mono (unhide HB6).size)).size (.cells #[.int .i64 A, .int .i64 B] 24))
                obtain ⟨x0, x1⟩ := (((unhide HA6).below hb7 (unhide HA6).lt).alloc (.cells #[.int .i64 A, .int .i64 B] 24)).cells
                obtain ⟨y0, y1⟩ := (IL.new w7 A B).cells
                clear hb7 HB6 HS6 HA6 Q
                go_wp2
                go_ret
                exact ⟨by simp, unhide HB7⟩
            · have f2 : decide ((20 : Int) < (g.size : Int)) = false := decide_eq_false c2
              have hl := unhide TB2 c1 (Or.inl (by omega))
              have hx : (⟨l.toArray⟩ : ByteArray) = g := by apply ByteArray.ext; rw [hl]
              rw [hx] at Q ⊢
              clear TB2 e90 e48 c1 hl hx
              go_wp2_with fail
              refine (unhide Q _ (unhide HS6)).mono ?_
              rintro e w7 ⟨rfl, hb7⟩
              have HB7 := hide (((unhide HB6).trans (hb7.mono (unhide HB6).size)).alloc ((unhide HB6).trans (hb7.mono (unhide HB6).size)).size (.cells #[.int .i64 A, .int .i64 B] 24))
              obtain ⟨x0, x1⟩ := (((unhide HA6).below hb7 (unhide HA6).lt).alloc (.cells #[.int .i64 A, .int .i64 B] 24)).cells
              obtain ⟨y0, y1⟩ := (IL.new w7 A B).cells
              clear hb7 HB6 HS6 HA6 Q
              go_wp2
              go_ret
              exact ⟨by simp, unhide HB7⟩
          · have f1 : (((g[g.size - 1].toNat : Int)) == 90) = false := e90.trans (decide_eq_false c1)
            clear TB2 e90 e48 c1
            go_wp2_with fail
            refine (unhide Q _ (unhide HS6)).mono ?_
            rintro e w7 ⟨rfl, hb7⟩
            have HB7 := hide (((unhide HB6).trans (hb7.mono (unhide HB6).size)).alloc ((unhide HB6).trans (hb7.mono (unhide HB6).size)).size (.cells #[.int .i64 A, .int .i64 B] 24))
            obtain ⟨x0, x1⟩ := (((unhide HA6).below hb7 (unhide HA6).lt).alloc (.cells #[.int .i64 A, .int .i64 B] 24)).cells
            obtain ⟨y0, y1⟩ := (IL.new w7 A B).cells
            clear hb7 HB6 HS6 HA6 Q
            go_wp2
            go_ret
            exact ⟨by simp, unhide HB7⟩
end Go.Proofs.YtemcilikchlaiaaDoor.st
