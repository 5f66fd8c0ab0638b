/- StampOrders: it answers true, if the calls answer as is asked. -/
import Derived.Test.YtemcilikchlaiabDoorMf
import Derived.Test.YtemcilikchlaiabDoorKq
import Derived.Deep.Cut
namespace Go.Proofs.YtemcilikchlaiabDoor.st
open Go.RowKit

/-- Which of two moments in the one form is later. -/
def cI (p q p' q' : Int) : Int := if p = p' ∧ q = q' then 0 else if p < p' ∨ (p = p' ∧ q < q') then -1 else 1
theorem cI_lt {p q p' q' : Int} (h : p < p' ∨ (p = p' ∧ q < q')) : cI p q p' q' = -1 ∧ cI p' q' p q = 1 := by
  unfold cI
  rw [if_neg (by omega), if_pos h, if_neg (by omega), if_neg (by omega)]
  exact ⟨rfl, rfl⟩
theorem cI_eq {p q p' q' : Int} (h : p = p' ∧ q = q') : cI p q p' q' = 0 ∧ cI p' q' p q = 0 := by
  unfold cI
  rw [if_pos h, if_pos (by omega)]
  exact ⟨rfl, rfl⟩
theorem cI_le {p q p' q' : Int} : cI p q p' q' ≤ 0 ↔ (p < p' ∨ (p = p' ∧ q ≤ q')) := by
  unfold cI
  split
  · omega
  · split <;> omega
theorem cI_trans {p q p' q' p'' q'' : Int} (h1 : cI p q p' q' ≤ 0) (h2 : cI p' q' p'' q'' ≤ 0) : ¬ 0 < cI p q p'' q'' := by
  have a := cI_le.1 h1
  have b := cI_le.1 h2
  have c : cI p q p'' q'' ≤ 0 := cI_le.2 (by omega)
  omega
theorem neq_ivb (w : World) (a b c d : Int) (h : ¬ (a = c ∧ b = d)) : (binOp .eql 23 (.agg #[.int .i64 a, .int .i64 b]) (.agg #[.int .i64 c, .int .i64 d])).run Tryd.prog w = .ok (.bool false) w := by
  rw [eq_iv]
  have : (a == c && b == d) = false := by
    by_cases q : a = c
    · have : b ≠ d := fun z => h ⟨q, z⟩
      simp [q, this]
    · simp [q]
  rw [this]
theorem yes_iv (w : World) (a b : Int) : (binOp .eql 23 (.agg #[.int .i64 a, .int .i64 b]) (.agg #[.int .i64 a, .int .i64 b])).run Tryd.prog w = .ok (.bool true) w := by
  rw [eq_iv]
  simp

set_option maxRecDepth 100000 in
set_option maxHeartbeats 6400000 in
theorem orders_any (K : StampOK) (KN : NormOK) (s n s' n' s'' n'' : Int) (w : World) (a : Addr) (hS : Sent w a) (hs : inI s) (hn : inI n) (hs' : inI s') (hn' : inI n') (hs'' : inI s'') (hn'' : inI n'') :
    Calls Tryd.prog 3 #[iv s n, iv s' n', iv s'' n''] w fun e w' => e = .returned (.bool true) ∧ Below w.heap.size w w' := by
  obtain ⟨r, hr⟩ := isText_ex s n
  obtain ⟨r', hr'⟩ := isText_ex s' n'
  have C0 := hide (fun u hu => shown_any K u a hu)
  have C1 := hide (fun u => K.cmp s n s' n' u hs hn hs' hn')
  have C2 := hide (fun u => K.cmp s' n' s n u hs' hn' hs hn)
  have C3 := hide (fun u => K.cmp s' n' s'' n'' u hs' hn' hs'' hn'')
  have C4 := hide (fun u => K.cmp s n s'' n'' u hs hn hs'' hn'')
  have C5 := hide (fun u => KN s n u hs hn)
  have C6 := hide (fun u => KN s' n' u hs' hn')
  have C7 := hide (fun u hu => K.text s n r u a hs hn hr hu)
  have C8 := hide (fun u hu => K.text s' n' r' u a hs' hn' hr' hu)
  have TO := hide (fun l l' (e : r = some l) (e' : r' = some l') => @text_order s n s' n' l l' (e ▸ hr) (e' ▸ hr'))
  have TO2 := hide (fun l l' (e : r = some l) (e' : r' = some l') => @text_order s' n' s n l' l (e' ▸ hr') (e ▸ hr))
  have TZ := hide (fun l (e : r = some l) => text_size (e ▸ hr))
  have TZ' := hide (fun l (e : r' = some l) => text_size (e ▸ hr'))
  have nb := nNano_in s n
  have E1 : cmpI s n s' n' = cI (nSec s n) (nNano s n) (nSec s' n') (nNano s' n') := rfl
  have E2 : cmpI s' n' s n = cI (nSec s' n') (nNano s' n') (nSec s n) (nNano s n) := rfl
  have E3 : cmpI s' n' s'' n'' = cI (nSec s' n') (nNano s' n') (nSec s'' n'') (nNano s'' n'') := rfl
  have E4 : cmpI s n s'' n'' = cI (nSec s n) (nNano s n) (nSec s'' n'') (nNano s'' n'') := rfl
  rw [E1] at C1
  rw [E2] at C2
  rw [E3] at C3
  rw [E4] at C4
  clear E1 E2 E3 E4
  generalize nSec s n = p at *
  generalize nNano s n = q at *
  generalize nSec s' n' = p' at *
  generalize nNano s' n' = q' at *
  generalize nSec s'' n'' = p'' at *
  generalize nNano s'' n'' = q'' at *
  have TR := hide (@cI_trans p q p' q' p'' q'')
  generalize hbc : cI p' q' p'' q'' = bc at *
  generalize hac : cI p q p'' q'' = ac at *
  clear hbc hac
  obtain ⟨ab, hab⟩ : ∃ x, cI p q p' q' = x := ⟨_, rfl⟩
  obtain ⟨ba, hba⟩ : ∃ x, cI p' q' p q = x := ⟨_, rfl⟩
  rw [hab] at C1 TR
  rw [hba] at C2
  have HAB := hide hab
  have HBA := hide hba
  clear hab hba
  simp only [iv] at C1 C2 C3 C4 C5 C6 C7 C8 ⊢
  have HS := hide (((hS.alloc (.cells #[.int .i64 s, .int .i64 n] 23)).alloc (.cells #[.int .i64 s', .int .i64 n'] 23)).alloc (.cells #[.int .i64 s'', .int .i64 n''] 23))
  have HB := hide ((((Below.refl w.heap.size w).alloc (Nat.le_refl _) (.cells #[.int .i64 s, .int .i64 n] 23)).alloc (by simp) (.cells #[.int .i64 s', .int .i64 n'] 23)).alloc (by simp; omega) (.cells #[.int .i64 s'', .int .i64 n''] 23))
  have HX := hide (((IL.new w s n).alloc (.cells #[.int .i64 s', .int .i64 n'] 23)).alloc (.cells #[.int .i64 s'', .int .i64 n''] 23))
  have HY := hide (show IL (((w.alloc (.cells #[.int .i64 s, .int .i64 n] 23)).alloc (.cells #[.int .i64 s', .int .i64 n'] 23)).alloc (.cells #[.int .i64 s'', .int .i64 n''] 23)) (w.heap.size + 1) s' n' by
    have := (IL.new (w.alloc (.cells #[.int .i64 s, .int .i64 n] 23)) s' n').alloc (.cells #[.int .i64 s'', .int .i64 n''] 23)
    rwa [World.size_alloc] at this)
  have HZ := hide (show IL (((w.alloc (.cells #[.int .i64 s, .int .i64 n] 23)).alloc (.cells #[.int .i64 s', .int .i64 n'] 23)).alloc (.cells #[.int .i64 s'', .int .i64 n''] 23)) (w.heap.size + 1 + 1) s'' n'' by
    have := IL.new ((w.alloc (.cells #[.int .i64 s, .int .i64 n] 23)).alloc (.cells #[.int .i64 s', .int .i64 n'] 23)) s'' n''
    rwa [World.size_alloc, World.size_alloc] at this)
  clear K KN hS hs hn hs' hn' hs'' hn'' hr hr'
  go_enter Tryd.func3, Tryd.ntmps3
  go_wp2_with fail
  refine (unhide C0 _ (unhide HS)).mono ?_
  rintro e v1 ⟨rfl, hb⟩
  have HB1 := hide (((unhide HB).trans (hb.mono (unhide HB).size)))
  have HS1 := hide ((unhide HS).keep hb)
  have HX1 := hide ((unhide HX).below hb (unhide HX).lt)
  have HY1 := hide ((unhide HY).below hb (unhide HY).lt)
  have HZ1 := hide ((unhide HZ).below hb (unhide HZ).lt)
  try clear x0 x1 y0 y1 z0 z1
  clear hb C0 HB HS HX HY HZ
  obtain ⟨x0, x1⟩ := (unhide HX1).cells
  obtain ⟨y0, y1⟩ := (unhide HY1).cells
  obtain ⟨z0, z1⟩ := (unhide HZ1).cells
  go_wp2_with fail
  refine (unhide C1 _).mono ?_
  rintro e v2 ⟨rfl, hb⟩
  have HB2 := hide (((unhide HB1).trans (hb.mono (unhide HB1).size)))
  have HS2 := hide ((unhide HS1).keep hb)
  have HX2 := hide ((unhide HX1).below hb (unhide HX1).lt)
  have HY2 := hide ((unhide HY1).below hb (unhide HY1).lt)
  have HZ2 := hide ((unhide HZ1).below hb (unhide HZ1).lt)
  try clear x0 x1 y0 y1 z0 z1
  clear hb C1 HB1 HS1 HX1 HY1 HZ1
  obtain ⟨x0, x1⟩ := (unhide HX2).cells
  obtain ⟨y0, y1⟩ := (unhide HY2).cells
  obtain ⟨z0, z1⟩ := (unhide HZ2).cells
  go_wp2_with fail
  refine (unhide C2 _).mono ?_
  rintro e v3 ⟨rfl, hb⟩
  have HB3 := hide (((unhide HB2).trans (hb.mono (unhide HB2).size)))
  have HS3 := hide ((unhide HS2).keep hb)
  have HX3 := hide ((unhide HX2).below hb (unhide HX2).lt)
  have HY3 := hide ((unhide HY2).below hb (unhide HY2).lt)
  have HZ3 := hide ((unhide HZ2).below hb (unhide HZ2).lt)
  try clear x0 x1 y0 y1 z0 z1
  clear hb C2 HB2 HS2 HX2 HY2 HZ2
  obtain ⟨x0, x1⟩ := (unhide HX3).cells
  obtain ⟨y0, y1⟩ := (unhide HY3).cells
  obtain ⟨z0, z1⟩ := (unhide HZ3).cells
  go_wp2_with fail
  refine (unhide C3 _).mono ?_
  rintro e v4 ⟨rfl, hb⟩
  have HB4 := hide (((unhide HB3).trans (hb.mono (unhide HB3).size)))
  have HS4 := hide ((unhide HS3).keep hb)
  have HX4 := hide ((unhide HX3).below hb (unhide HX3).lt)
  have HY4 := hide ((unhide HY3).below hb (unhide HY3).lt)
  have HZ4 := hide ((unhide HZ3).below hb (unhide HZ3).lt)
  try clear x0 x1 y0 y1 z0 z1
  clear hb C3 HB3 HS3 HX3 HY3 HZ3
  obtain ⟨x0, x1⟩ := (unhide HX4).cells
  obtain ⟨y0, y1⟩ := (unhide HY4).cells
  obtain ⟨z0, z1⟩ := (unhide HZ4).cells
  go_wp2_with fail
  refine (unhide C4 _).mono ?_
  rintro e v5 ⟨rfl, hb⟩
  have HB5 := hide (((unhide HB4).trans (hb.mono (unhide HB4).size)))
  have HS5 := hide ((unhide HS4).keep hb)
  have HX5 := hide ((unhide HX4).below hb (unhide HX4).lt)
  have HY5 := hide ((unhide HY4).below hb (unhide HY4).lt)
  have HZ5 := hide ((unhide HZ4).below hb (unhide HZ4).lt)
  try clear x0 x1 y0 y1 z0 z1
  clear hb C4 HB4 HS4 HX4 HY4 HZ4
  obtain ⟨x0, x1⟩ := (unhide HX5).cells
  obtain ⟨y0, y1⟩ := (unhide HY5).cells
  obtain ⟨z0, z1⟩ := (unhide HZ5).cells
  go_wp2_with fail
  refine (unhide C5 _).mono ?_
  rintro e v6 ⟨rfl, hb⟩
  have HB6 := hide (((unhide HB5).trans (hb.mono (unhide HB5).size)).alloc ((unhide HB5).trans (hb.mono (unhide HB5).size)).size (.cells #[.int .i64 p, .int .i64 q] 23))
  have HS6 := hide (((unhide HS5).keep hb).alloc (.cells #[.int .i64 p, .int .i64 q] 23))
  have HX6 := hide (((unhide HX5).below hb (unhide HX5).lt).alloc (.cells #[.int .i64 p, .int .i64 q] 23))
  have HY6 := hide (((unhide HY5).below hb (unhide HY5).lt).alloc (.cells #[.int .i64 p, .int .i64 q] 23))
  have HZ6 := hide (((unhide HZ5).below hb (unhide HZ5).lt).alloc (.cells #[.int .i64 p, .int .i64 q] 23))
  have HP6 := hide (IL.new v6 p q)
  try clear x0 x1 y0 y1 z0 z1
  clear hb C5 HB5 HS5 HX5 HY5 HZ5
  obtain ⟨x0, x1⟩ := (unhide HX6).cells
  obtain ⟨y0, y1⟩ := (unhide HY6).cells
  obtain ⟨z0, z1⟩ := (unhide HZ6).cells
  go_wp2_with fail
  refine (unhide C6 _).mono ?_
  rintro e v7 ⟨rfl, hb⟩
  have HB7 := hide (((unhide HB6).trans (hb.mono (unhide HB6).size)).alloc ((unhide HB6).trans (hb.mono (unhide HB6).size)).size (.cells #[.int .i64 p', .int .i64 q'] 23))
  have HS7 := hide (((unhide HS6).keep hb).alloc (.cells #[.int .i64 p', .int .i64 q'] 23))
  have HX7 := hide (((unhide HX6).below hb (unhide HX6).lt).alloc (.cells #[.int .i64 p', .int .i64 q'] 23))
  have HY7 := hide (((unhide HY6).below hb (unhide HY6).lt).alloc (.cells #[.int .i64 p', .int .i64 q'] 23))
  have HZ7 := hide (((unhide HZ6).below hb (unhide HZ6).lt).alloc (.cells #[.int .i64 p', .int .i64 q'] 23))
  have HP7 := hide (((unhide HP6).below hb (unhide HP6).lt).alloc (.cells #[.int .i64 p', .int .i64 q'] 23))
  have HQ7 := hide (IL.new v7 p' q')
  try clear x0 x1 y0 y1 z0 z1
  clear hb C6 HB6 HS6 HX6 HY6 HZ6 HP6
  obtain ⟨x0, x1⟩ := (unhide HP7).cells
  obtain ⟨y0, y1⟩ := (unhide HQ7).cells
  have k1 : decide (q < 0) = false := decide_eq_false (by omega)
  have k2 : decide (999999999 < q) = false := decide_eq_false (by omega)
  go_upto_region 8 with fail
  go_cut [109] from 18 (fun c wx => c = .bool false ∧ wx = v7.alloc (.cells #[.int .i64 p', .int .i64 q'] 23))
  case first =>
    clear C7 C8 TO TO2 TZ TZ' HB7 HS7 HX7 HY7 HZ7 HP7 HQ7 nb
    by_cases o1 : p < p' ∨ (p = p' ∧ q < q')
    · obtain ⟨g1, g2⟩ := cI_lt o1
      have e1 := (unhide HAB).symm.trans g1
      have e2 := (unhide HBA).symm.trans g2
      subst e1 e2
      have heq := fun u => neq_ivb u p q p' q' (by omega)
      by_cases o2 : bc ≤ 0
      · have j2 := unhide TR (by omega) o2
        have j2' : decide (0 < ac) = false := decide_eq_false (by omega)
        clear TR HAB HBA g1 g2 j2
        by_cases o3 : p < p'
        · have o4 : (p == p') = false := by rw [beq_eq_false_iff_ne]; omega
          clear o1
          as_aux_lemma => (go_wp2_with fail; go_meet; exact ⟨rfl, rfl⟩)
        · have o3' : decide (p < p') = false := decide_eq_false o3
          have o4 : (p == p') = true := by rw [beq_iff_eq]; omega
          have o5 : q < q' := by omega
          clear o1 o3
          as_aux_lemma => (go_wp2_with fail; go_meet; exact ⟨rfl, rfl⟩)
      · have o2' : decide (bc ≤ 0) = false := decide_eq_false o2
        clear TR HAB HBA g1 g2 o2
        by_cases o3 : p < p'
        · have o4 : (p == p') = false := by rw [beq_eq_false_iff_ne]; omega
          clear o1
          as_aux_lemma => (go_wp2_with fail; go_meet; exact ⟨rfl, rfl⟩)
        · have o3' : decide (p < p') = false := decide_eq_false o3
          have o4 : (p == p') = true := by rw [beq_iff_eq]; omega
          have o5 : q < q' := by omega
          clear o1 o3
          as_aux_lemma => (go_wp2_with fail; go_meet; exact ⟨rfl, rfl⟩)
    · by_cases o2 : p = p' ∧ q = q'
      · obtain ⟨g1, g2⟩ := cI_eq o2
        have e1 := (unhide HAB).symm.trans g1
        have e2 := (unhide HBA).symm.trans g2
        subst e1 e2
        obtain ⟨rfl, rfl⟩ := o2
        have heq := fun u => yes_iv u p q
        have o3' : decide (p < p) = false := decide_eq_false (by omega)
        have o4 : (p == p) = true := by simp
        have o5' : decide (q < q) = false := decide_eq_false (by omega)
        by_cases o2 : bc ≤ 0
        · have j2 := unhide TR (by omega) o2
          have j2' : decide (0 < ac) = false := decide_eq_false (by omega)
          clear TR HAB HBA g1 g2 j2 o1
          as_aux_lemma => (go_wp2_with fail; go_meet; exact ⟨rfl, rfl⟩)
        · have o2' : decide (bc ≤ 0) = false := decide_eq_false o2
          clear TR HAB HBA g1 g2 o2 o1
          as_aux_lemma => (go_wp2_with fail; go_meet; exact ⟨rfl, rfl⟩)
      · have o6 : p' < p ∨ (p' = p ∧ q' < q) := by omega
        obtain ⟨g1, g2⟩ := cI_lt o6
        have e1 := (unhide HAB).symm.trans g2
        have e2 := (unhide HBA).symm.trans g1
        subst e1 e2
        have heq := fun u => neq_ivb u p q p' q' (by omega)
        have o3' : decide (p < p') = false := decide_eq_false (by omega)
        clear TR HAB HBA g1 g2
        by_cases o4 : p = p'
        · have o4' : (p == p') = true := by rw [beq_iff_eq]; exact o4
          have o5' : decide (q < q') = false := decide_eq_false (by omega)
          clear o1 o2 o6 o4
          as_aux_lemma => (go_wp2_with fail; go_meet; exact ⟨rfl, rfl⟩)
        · have o4' : (p == p') = false := by rw [beq_eq_false_iff_ne]; exact o4
          clear o1 o2 o6 o4
          as_aux_lemma => (go_wp2_with fail; go_meet; exact ⟨rfl, rfl⟩)
  case rest =>
    obtain ⟨rfl, rfl⟩ := hcut
    clear k1 k2 TR x0 x1 y0 y1 HP7 HQ7 HZ7
    obtain ⟨x0, x1⟩ := (unhide HX7).cells
    go_wp2_with fail
    refine (unhide C7 _ (unhide HS7)).mono ?_
    rintro e v8 ⟨rfl, hb⟩
    have HB8 := hide ((unhide HB7).trans (hb.mono (unhide HB7).size))
    have HS8 := hide ((unhide HS7).keep hb)
    have HY8 := hide ((unhide HY7).below hb (unhide HY7).lt)
    obtain ⟨y0, y1⟩ := (unhide HY8).cells
    clear hb C7 HB7 HS7 HX7 HY7 x0 x1
    obtain ⟨X, ev, hXe, hXs⟩ : ∃ (X : ByteArray) (ev : Value), texE a r = .tuple #[.string X, ev] ∧ ((ev = eT a) ∨ ∃ l, r = some l ∧ X = ⟨l.toArray⟩ ∧ ev = .nilIface) := by
      cases r with
      | none => exact ⟨_, _, rfl, Or.inl rfl⟩
      | some l => exact ⟨_, _, rfl, Or.inr ⟨l, rfl, rfl, rfl⟩⟩
    obtain ⟨Y, ev', hYe, hYs⟩ : ∃ (Y : ByteArray) (ev' : Value), texE a r' = .tuple #[.string Y, ev'] ∧ ((ev' = eT a) ∨ ∃ l, r' = some l ∧ Y = ⟨l.toArray⟩ ∧ ev' = .nilIface) := by
      cases r' with
      | none => exact ⟨_, _, rfl, Or.inl rfl⟩
      | some l => exact ⟨_, _, rfl, Or.inr ⟨l, rfl, rfl, rfl⟩⟩
    rw [hXe]
    rw [hYe] at C8
    clear hXe hYe
    go_wp2_with fail
    refine (unhide C8 _ (unhide HS8)).mono ?_
    rintro e v9 ⟨rfl, hb⟩
    have HB9 := hide ((unhide HB8).trans (hb.mono (unhide HB8).size))
    clear hb C8 HB8 HS8 HY8 y0 y1
    rcases hXs with rfl | ⟨l, hl, rfl, rfl⟩
    · clear TO TO2 TZ TZ' HAB HBA hYs
      unfold eT
      go_wp2
      go_ret
      exact ⟨rfl, unhide HB9⟩
    · rcases hYs with rfl | ⟨l', hl', rfl, rfl⟩
      · clear TO TO2 TZ TZ' HAB HBA
        unfold eT
        go_wp2
        go_ret
        exact ⟨rfl, unhide HB9⟩
      · have T1 := unhide TO l l' hl hl'
        have T2 := unhide TO2 l l' hl hl'
        have z1 := unhide TZ l hl
        have z2 := unhide TZ' l' hl'
        have s1 : (⟨l.toArray⟩ : ByteArray).size = l.length := List.size_toArray
        have s2 : (⟨l'.toArray⟩ : ByteArray).size = l'.length := List.size_toArray
        have q1 : (⟨l.toArray⟩ : ByteArray).toList = l := by rw [ByteArray.toList_eq]
        have q2 : (⟨l'.toArray⟩ : ByteArray).toList = l' := by rw [ByteArray.toList_eq]
        clear TO TO2 TZ TZ' hl hl'
        generalize (⟨l.toArray⟩ : ByteArray) = X at *
        generalize (⟨l'.toArray⟩ : ByteArray) = Y at *
        by_cases hz : l.length = l'.length
        · have hz' : ((X.size : Int) != (Y.size : Int)) = false := by rw [s1, s2, hz]; simp
          obtain ⟨U1, U2⟩ := T1 hz
          obtain ⟨_, V2⟩ := T2 hz.symm
          by_cases o1 : p < p' ∨ (p = p' ∧ q < q')
          · obtain ⟨g1, _⟩ := cI_lt o1
            have e1 := (unhide HAB).symm.trans g1
            subst e1
            have hless : Op.bytesLess X.toList Y.toList = true := by rw [q1, q2]; exact (U2 o1).less.1
            clear HAB HBA T1 T2 U1 U2 V2 z1 z2 s1 s2 q1 q2 g1 o1 hz
            as_aux_lemma =>
              go_wp2
              go_ret
              exact ⟨rfl, unhide HB9⟩
          · by_cases o2 : p = p' ∧ q = q'
            · obtain ⟨g1, _⟩ := cI_eq o2
              have e1 := (unhide HAB).symm.trans g1
              subst e1
              have hXY : X = Y := by
                have e := U1 o2
                apply ByteArray.ext
                apply Array.toList_inj.1
                have a1 := q1
                have a2 := q2
                rw [ByteArray.toList_eq] at a1 a2
                rw [a1, a2, e]
              subst hXY
              clear HAB HBA T1 T2 U1 U2 V2 z1 z2 s1 s2 q1 q2 g1 o1 hz o2
              as_aux_lemma =>
                go_wp2
                go_ret
                exact ⟨by simp, unhide HB9⟩
            · have o6 : p' < p ∨ (p' = p ∧ q' < q) := by omega
              obtain ⟨_, g2⟩ := cI_lt o6
              have e1 := (unhide HAB).symm.trans g2
              subst e1
              have hl0 : Op.bytesLess Y.toList X.toList = true := by rw [q1, q2]; exact (V2 o6).less.1
              have hl1 : Op.bytesLess X.toList Y.toList = false := by rw [q1, q2]; exact (V2 o6).less.2
              have hl2 : (X.toList == Y.toList) = false := by
                rw [beq_eq_false_iff_ne]
                intro z
                rw [z] at hl0 hl1
                rw [hl0] at hl1
                cases hl1
              clear HAB HBA T1 T2 U1 U2 V2 z1 z2 s1 s2 q1 q2 g2 o1 hz o2 o6 hl0
              as_aux_lemma =>
                go_wp2
                go_ret
                exact ⟨by first | rfl | simp, unhide HB9⟩
        · have hz' : ((X.size : Int) != (Y.size : Int)) = true := by rw [s1, s2]; simp; omega
          clear HAB HBA T1 T2 z1 z2 s1 s2 q1 q2 hz
          go_wp2
          go_ret
          exact ⟨rfl, unhide HB9⟩
end Go.Proofs.YtemcilikchlaiabDoor.st
