/- RuleMatches and RuleStars answer true, if the calls answer as is asked. -/
import Derived.Test.YthpnclhfooileaaGreatDoorJh
namespace Go.Proofs.YthpnclhfooileaaGreatDoor.ru
open Go.RowKit

def bl (s : ByteArray) : List UInt8 := s.data.toList
/-- What is asked of package rule; G: what its variables hold. -/
structure RuleOK (G : World → Prop) : Prop where
  keep : ∀ w w', G w → Below w.heap.size w w' → G w'
  mat : ∀ (p s : ByteArray) (w : World), p.size ≤ 4294967280 → s.size ≤ 4294967280 → G w → Calls Tryz.prog 9 #[.string p, .string s] w fun e w' => e = .returned (.bool (mch (prt (bl p)) (bl s))) ∧ Below w.heap.size w w'
  awk : ∀ w, G w → Calls Tryz.prog 6 #[] w fun e w' => e = .returned (.bool true) ∧ Below w.heap.size w w'

set_option maxRecDepth 100000 in
theorem matches_any {G : World → Prop} (K : RuleOK G) (p s : ByteArray) (w : World) (hG : G w) (hp : p.size ≤ 4294967280) (hs : s.size ≤ 4294967280) :
    Calls Tryz.prog 4 #[.string p, .string s] w fun e w' => e = .returned (.bool true) ∧ Below w.heap.size w w' := by
  have C0 := hide (K.awk w hG)
  have C1 := hide (fun u hu => K.mat p s u hp hs hu)
  have C2 := hide (fun u => rmatch_any p s u (by omega) (by omega))
  rw [show p.data.toList = bl p from rfl, show s.data.toList = bl s from rfl] at C2
  have HK := hide K.keep
  have HG := hide hG
  generalize mch (prt (bl p)) (bl s) = b at *
  clear K hG
  go_enter Tryz.func4, Tryz.ntmps4
  go_wp2_with fail
  refine (unhide C0).mono ?_
  rintro e w1 ⟨rfl, hb1⟩
  have C1' := hide (unhide C1 w1 (unhide HK _ _ (unhide HG) hb1))
  have HB1 := hide hb1
  clear C0 C1 hb1
  go_wp2_with fail
  refine (unhide C1').mono ?_
  rintro e w2 ⟨rfl, hb2⟩
  have HB2 := hide ((unhide HB1).trans (hb2.mono (unhide HB1).size))
  clear C1' hb2 HB1
  go_wp2_with fail
  refine (unhide C2 _).mono ?_
  rintro e w3 ⟨rfl, hb3⟩
  have HB3 := hide ((unhide HB2).trans (hb3.mono (unhide HB2).size))
  clear C2 hb3 HB2
  go_wp2
  go_ret
  exact ⟨by simp, unhide HB3⟩

theorem bl_esc (s : ByteArray) : bl ⟨(esc (bl s)).toArray⟩ = esc (bl s) := rfl
theorem bl_add (s t : ByteArray) : bl (s ++ t) = bl s ++ bl t := by unfold bl; simp
theorem bl_len (s : ByteArray) : (bl s).length = s.size := blen s
/-- A text as a pattern. -/
def aP (s : ByteArray) : ByteArray := ⟨(esc (bl s)).toArray⟩
theorem aP_size (s : ByteArray) : (aP s).size ≤ 2 * s.size := by
  have := esc_len (bl s)
  rw [bl_len] at this
  show (esc (bl s)).toArray.size ≤ _
  rw [List.size_toArray]; exact this
theorem star_is : prt (bl ⟨#[42]⟩) = [(true, 42)] := by decide
theorem st1 (s : ByteArray) : mch (prt (bl (aP s))) (bl s) = true := by
  show mch (prt (esc (bl s))) (bl s) = true
  rw [prt_esc_all]; exact (mch_lits _ _).2 rfl
theorem st2 (s t : ByteArray) : mch (prt (bl (aP s))) (bl t) = (s.toList == t.toList) := by
  show mch (prt (esc (bl s))) (bl t) = _
  rw [prt_esc_all]
  apply bool_of
  rw [mch_lits, beq_iff_eq, ByteArray.toList_eq, ByteArray.toList_eq]
  exact Iff.rfl
theorem st3 (s : ByteArray) : mch (prt (bl ⟨#[42]⟩)) (bl s) = true := by rw [star_is]; exact mch_star _
theorem st4 (s t : ByteArray) : mch (prt (bl (aP s ++ ⟨#[42]⟩))) (bl (s ++ t)) = true := by
  rw [bl_add, bl_add]
  show mch (prt (esc (bl s) ++ [42])) _ = true
  rw [prt_esc_app]
  exact (mch_append _ _ _).2 ⟨_, _, rfl, (mch_lits _ _).2 rfl, mch_star _⟩
theorem st5 (s t : ByteArray) : mch (prt (bl (⟨#[42]⟩ ++ aP t))) (bl (s ++ t)) = true := by
  rw [bl_add, bl_add]
  show mch (prt (42 :: esc (bl t))) _ = true
  rw [prt_cons 42 _ (by decide), prt_esc_all]
  exact (mch_any _ _ _).2 ⟨_, _, rfl, (mch_lits _ _).2 rfl⟩
theorem st6 (s : ByteArray) : mch (prt (bl ⟨#[]⟩)) (bl s) = s.toList.isEmpty := by
  show (bl s).isEmpty = _
  rw [ByteArray.toList_eq]; rfl
theorem st7 (p q s t : ByteArray) (hp : (bl p).getLast? ≠ some 92) (h1 : mch (prt (bl p)) (bl s) = true) (h2 : mch (prt (bl q)) (bl t) = true) : mch (prt (bl (p ++ q))) (bl (s ++ t)) = true := by
  rw [bl_add, bl_add, prt_append _ _ hp]
  exact (mch_append _ _ _).2 ⟨_, _, rfl, h1, h2⟩

theorem last_none (p : ByteArray) (h : p.size = 0) : (bl p).getLast? ≠ some 92 := by
  have : bl p = [] := List.eq_nil_of_length_eq_zero (by rw [bl_len]; exact h)
  rw [this]; simp
theorem last_no (p : ByteArray) (h0 : 0 < p.size) (h : ¬ p[p.size - 1] = 92) : (bl p).getLast? ≠ some 92 := by
  intro z
  rw [List.getLast?_eq_getElem?, bl_len, List.getElem?_eq_getElem (by rw [bl_len]; omega)] at z
  exact h (Option.some.inj z)
set_option maxRecDepth 100000 in
set_option maxHeartbeats 3200000 in
theorem stars_any {G : World → Prop} (K : RuleOK G) (p q s t : ByteArray) (w : World) (hG : G w) (hp : p.size ≤ 268435456) (hq : q.size ≤ 268435456) (hs : s.size ≤ 268435456) (ht : t.size ≤ 268435456) :
    Calls Tryz.prog 5 #[.string p, .string q, .string s, .string t] w fun e w' => e = .returned (.bool true) ∧ Below w.heap.size w w' := by
  have za := aP_size s
  have zb := aP_size t
  have hst : (s ++ t).size = s.size + t.size := ByteArray.size_append
  have hpq : (p ++ q).size = p.size + q.size := ByteArray.size_append
  have ha1 : (aP s ++ ⟨#[42]⟩).size = (aP s).size + 1 := ByteArray.size_append
  have hb1 : ((⟨#[42]⟩ : ByteArray) ++ aP t).size = 1 + (aP t).size := ByteArray.size_append
  have C0 := hide (K.awk w hG)
  have P1 := hide (fun u => plain_any s u (by omega))
  have P2 := hide (fun u => plain_any t u (by omega))
  rw [show (⟨(esc s.data.toList).toArray⟩ : ByteArray) = aP s from rfl] at P1
  rw [show (⟨(esc t.data.toList).toArray⟩ : ByteArray) = aP t from rfl] at P2
  have M1 := hide (fun u hu => K.mat (aP s) s u (by omega) (by omega) hu)
  have M2 := hide (fun u hu => K.mat (aP s) t u (by omega) (by omega) hu)
  have M3 := hide (fun u hu => K.mat ⟨#[42]⟩ s u (by decide) (by omega) hu)
  have M4 := hide (fun u hu => K.mat (aP s ++ ⟨#[42]⟩) (s ++ t) u (by omega) (by omega) hu)
  have M5 := hide (fun u hu => K.mat (⟨#[42]⟩ ++ aP t) (s ++ t) u (by omega) (by omega) hu)
  have M6 := hide (fun u hu => K.mat ⟨#[]⟩ s u (by decide) (by omega) hu)
  have M7 := hide (fun u hu => K.mat p s u (by omega) (by omega) hu)
  have M8 := hide (fun u hu => K.mat q t u (by omega) (by omega) hu)
  have M9 := hide (fun u hu => K.mat (p ++ q) (s ++ t) u (by omega) (by omega) hu)
  simp only [st1, st2, st3, st4, st5, st6] at M1 M2 M3 M4 M5 M6
  have s1 : ∀ u : World, (Op.stringOp .add (aP s) ⟨#[42]⟩).run Tryz.prog u = .ok (.string (aP s ++ ⟨#[42]⟩)) u := fun u => run_string_add_sum u _ _ (by show (aP s).size + 1 ≤ _; omega)
  have s2 : ∀ u : World, (Op.stringOp .add s t).run Tryz.prog u = .ok (.string (s ++ t)) u := fun u => run_string_add_sum u _ _ (by omega)
  have s3 : ∀ u : World, (Op.stringOp .add ⟨#[42]⟩ (aP t)).run Tryz.prog u = .ok (.string (⟨#[42]⟩ ++ aP t)) u := fun u => run_string_add_sum u _ _ (by show 1 + (aP t).size ≤ _; omega)
  have s4 : ∀ u : World, (Op.stringOp .add p q).run Tryz.prog u = .ok (.string (p ++ q)) u := fun u => run_string_add_sum u _ _ (by omega)
  have HK := hide K.keep
  have HG := hide hG
  have S7 := hide (st7 p q s t)
  generalize (⟨#[42]⟩ : ByteArray) ++ aP t = x5 at *
  generalize aP s ++ (⟨#[42]⟩ : ByteArray) = x4 at *
  generalize hpqe : p ++ q = x9 at *
  generalize hste : s ++ t = y9 at *
  generalize aP s = a at *
  generalize aP t = b at *
  generalize mch (prt (bl x9)) (bl y9) = m9 at *
  generalize mch (prt (bl p)) (bl s) = m7 at *
  generalize mch (prt (bl q)) (bl t) = m8 at *
  obtain ⟨e2, he2⟩ : ∃ e2, (s.toList == t.toList) = e2 := ⟨_, rfl⟩
  obtain ⟨e6, he6⟩ : ∃ e6, s.toList.isEmpty = e6 := ⟨_, rfl⟩
  rw [he2] at M2
  rw [he6] at M6
  clear K hG za zb hst hpq ha1 hb1 hpqe hste
  go_enter Tryz.func5, Tryz.ntmps5
  go_wp2_with fail
  refine (unhide C0).mono ?_
  rintro e w1 ⟨rfl, k1⟩
  have HB := hide k1
  clear C0 k1
  go_wp2_with fail
  refine (unhide P1 _).mono ?_
  rintro e w2 ⟨rfl, k2⟩
  have HB2 := hide ((unhide HB).trans (k2.mono (unhide HB).size))
  clear P1 k2 HB
  go_wp2_with fail
  refine (unhide M1 _ (unhide HK _ _ (unhide HG) (unhide HB2))).mono ?_
  rintro e w3 ⟨rfl, k3⟩
  have HB3 := hide ((unhide HB2).trans (k3.mono (unhide HB2).size))
  clear M1 k3 HB2
  go_wp2_with fail
  refine (unhide M2 _ (unhide HK _ _ (unhide HG) (unhide HB3))).mono ?_
  rintro e w4 ⟨rfl, k4⟩
  have HB4 := hide ((unhide HB3).trans (k4.mono (unhide HB3).size))
  clear M2 k4 HB3
  go_wp2_with fail
  refine (unhide M3 _ (unhide HK _ _ (unhide HG) (unhide HB4))).mono ?_
  rintro e w5 ⟨rfl, k5⟩
  have HB5 := hide ((unhide HB4).trans (k5.mono (unhide HB4).size))
  clear M3 k5 HB4
  go_wp2_with fail
  refine (unhide M4 _ (unhide HK _ _ (unhide HG) (unhide HB5))).mono ?_
  rintro e w6 ⟨rfl, k6⟩
  have HB6 := hide ((unhide HB5).trans (k6.mono (unhide HB5).size))
  clear M4 k6 HB5
  go_wp2_with fail
  refine (unhide P2 _).mono ?_
  rintro e w7 ⟨rfl, k7⟩
  have HB7 := hide ((unhide HB6).trans (k7.mono (unhide HB6).size))
  clear P2 k7 HB6
  go_wp2_with fail
  refine (unhide M5 _ (unhide HK _ _ (unhide HG) (unhide HB7))).mono ?_
  rintro e w8 ⟨rfl, k8⟩
  have HB8 := hide ((unhide HB7).trans (k8.mono (unhide HB7).size))
  clear M5 k8 HB7
  go_wp2_with fail
  refine (unhide M6 _ (unhide HK _ _ (unhide HG) (unhide HB8))).mono ?_
  rintro e w9 ⟨rfl, k9⟩
  have HB9 := hide ((unhide HB8).trans (k9.mono (unhide HB8).size))
  clear M6 k9 HB8
  by_cases hp0 : 0 < p.size
  · have hp1 : (1 : Int) ≤ (p.size : Int) ∧ (p.size : Int) - 1 < (p.size : Int) := by omega
    by_cases hl : p[p.size - 1] = 92
    · have hl' : ((p[p.size - 1].toNat : Int) == 92) = true := by rw [hl]; rfl
      clear hl M7 M8 M9 S7
      go_wp2
      go_ret
      exact ⟨rfl, unhide HB9⟩
    · have hl' : ((p[p.size - 1].toNat : Int) == 92) = false := bne92 _ hl
      have SS := hide (unhide S7 (last_no p hp0 hl))
      clear hl S7
      go_wp2_with fail
      refine (unhide M7 _ (unhide HK _ _ (unhide HG) (unhide HB9))).mono ?_
      rintro e w10 ⟨rfl, k10⟩
      have HB10 := hide ((unhide HB9).trans (k10.mono (unhide HB9).size))
      clear M7 k10 HB9
      go_wp2_with fail
      refine (unhide M8 _ (unhide HK _ _ (unhide HG) (unhide HB10))).mono ?_
      rintro e w11 ⟨rfl, k11⟩
      have HB11 := hide ((unhide HB10).trans (k11.mono (unhide HB10).size))
      clear M8 k11 HB10
      cases m7
      · clear M9 SS
        go_wp2
        go_ret
        exact ⟨rfl, unhide HB11⟩
      · cases m8
        · clear M9 SS
          go_wp2
          go_ret
          exact ⟨rfl, unhide HB11⟩
        · have h9 := unhide SS rfl rfl
          subst h9
          go_wp2_with fail
          refine (unhide M9 _ (unhide HK _ _ (unhide HG) (unhide HB11))).mono ?_
          rintro e w12 ⟨rfl, k12⟩
          have HB12 := hide ((unhide HB11).trans (k12.mono (unhide HB11).size))
          clear M9 k12 HB11
          go_wp2
          go_ret
          exact ⟨rfl, unhide HB12⟩
  · have SS := hide (unhide S7 (last_none p (by omega)))
    clear S7
    go_wp2_with fail
    refine (unhide M7 _ (unhide HK _ _ (unhide HG) (unhide HB9))).mono ?_
    rintro e w10 ⟨rfl, k10⟩
    have HB10 := hide ((unhide HB9).trans (k10.mono (unhide HB9).size))
    clear M7 k10 HB9
    go_wp2_with fail
    refine (unhide M8 _ (unhide HK _ _ (unhide HG) (unhide HB10))).mono ?_
    rintro e w11 ⟨rfl, k11⟩
    have HB11 := hide ((unhide HB10).trans (k11.mono (unhide HB10).size))
    clear M8 k11 HB10
    cases m7
    · clear M9 SS
      go_wp2
      go_ret
      exact ⟨rfl, unhide HB11⟩
    · cases m8
      · clear M9 SS
        go_wp2
        go_ret
        exact ⟨rfl, unhide HB11⟩
      · have h9 := unhide SS rfl rfl
        subst h9
        go_wp2_with fail
        refine (unhide M9 _ (unhide HK _ _ (unhide HG) (unhide HB11))).mono ?_
        rintro e w12 ⟨rfl, k12⟩
        have HB12 := hide ((unhide HB11).trans (k12.mono (unhide HB11).size))
        clear M9 k12 HB11
        go_wp2
        go_ret
        exact ⟨rfl, unhide HB12⟩
end Go.Proofs.YthpnclhfooileaaGreatDoor.ru
