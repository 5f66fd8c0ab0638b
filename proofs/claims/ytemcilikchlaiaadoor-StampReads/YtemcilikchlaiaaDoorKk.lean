/- The reference of package stamp: Parse, from the test of the offset on. -/
import Derived.Test.YtemcilikchlaiaaDoorKg
namespace Go.Proofs.YtemcilikchlaiaaDoor.st
open Go.RowKit

/-- A body's rest, from the statement on that begins with a region. -/
def fstR : Code → Nat
  | .region n _ _ => n
  | .seq a _ => fstR a
  | .block _ c => fstR c
  | .loop c => fstR c
  | _ => 1000
def tailR (n : Nat) : Code → Code
  | .seq a b => if fstR a = n then .seq a b else tailR n b
  | c => c

set_option maxRecDepth 100000 in
set_option maxHeartbeats 12800000 in
theorem rparse_32 (s : ByteArray) (w : World) (y m d hh mi ss D h2 m2 : Int) (k v : Nat) (res : Value) (hk0 : 19 ≤ k) (hk1 : k ≤ 29) (_hv : v ≤ 999999999) (_hs : s.size ≤ 9223372036854775807)
    (h0 : 0 ≤ hh) (h1 : hh ≤ 23) (i0 : 0 ≤ mi) (i1 : mi ≤ 59) (e0 : 0 ≤ ss) (e1 : ss ≤ 59) (hdb : -800000 ≤ D ∧ D ≤ 3700000)
    (eb wb cb : Bool) (HO : Hid (∀ o, (if (eb = true ∨ wb = true) ∧ cb = true ∧ s.size = k + 6 ∧ 0 ≤ h2 ∧ h2 ≤ 23 ∧ 0 ≤ m2 ∧ m2 ≤ 59 then
      some (if eb = true then -(h2 * 3600 + m2 * 60) else h2 * 3600 + m2 * 60) else none) = some o → parV (some (D * 86400 + (hh * 3600 + mi * 60 + ss) + o, (v : Int))) = res))
    (HN : Hid ((if (eb = true ∨ wb = true) ∧ cb = true ∧ s.size = k + 6 ∧ 0 ≤ h2 ∧ h2 ≤ 23 ∧ 0 ≤ m2 ∧ m2 ≤ 59 then
      some (if eb = true then -(h2 * 3600 + m2 * 60) else h2 * 3600 + m2 * 60) else none) = none → parV none = res))
    (u3 u15 u23 u24 u25 u26 u27 u28 u29 u30 u31 u32 u33 u34 u35 u36 u37 u38 u39 u40 u41 u42 u43 u44 u45 u46 u47 u48 u49 u50 u51 u52 u53 u54 u55 u56 u57 u58 u59 u60 u61 u62 u63 u64 u65 u66 u67 u68 u69 u70 u71 u72 u73 u74 u75 u76 u77 u78 u79 u80 u81 u82 u83 u84 u85 u86 u87 u88 u89 u90 u91 u92 u93 u94 u95 u96 u97 u98 u99 u100 u101 u102 u103 u104 u105 u106 u107 u108 u109 u110 u111 u112 u113 u114 u115 u116 u117 u118 u119 u120 u121 u122 u123 u124 u125 u126 u127 u128 u129 u130 u131 u132 u133 u134 u135 u136 u137 u138 u139 u140 u141 u142 u143 u144 u145 u146 u147 u148 u149 u150 u151 u152 u153 u154 u155 u156 u157 u158 u159 u160 u161 u162 u163 u164 u165 u166 u167 u168 u169 u170 u171 u172 u173 u174 u175 u176 u177 u178 u179 u180 u181 u182 u183 u184 u185 u186 u187 u188 u189 u190 u191 u192 u193 u194 u195 u196 u197 u198 u199 u200 u201 u202 u203 u204 u205 u206 u207 u208 u209 u210 u211 u212 u213 u214 u215 u216 u217 u218 u219 u220 u221 u222 u223 u224 u225 u226 u227 u228 u229 u230 u231 u232 u233 u234 u235 : Value) (c : Code) (hc : Tryd.f11.body.map (tailR 32) = some c) :
    Code.wp Tryd.prog c (bodyPost Tryd.prog Tryd.f11 fun e w' => e = .returned res ∧ Below w.heap.size w w') { tmps := List.toArray (.string s :: undef :: .pointer (some ⟨w.heap.size, 0, none⟩) :: u3 :: .int .i64 y :: .int .i64 m :: .int .i64 d :: .int .i64 hh :: .int .i64 mi :: .int .i64 ss :: .bool true :: .int .i64 D :: .int .i64 0 :: .int .i64 (k : Int) :: .int .i64 (v : Int) :: u15 :: .int .i64 (D * 86400 + (hh * 3600 + mi * 60 + ss)) :: .int .i64 h2 :: .int .i64 m2 :: .bool eb :: .bool wb :: .bool cb :: undef :: u23 :: u24 :: u25 :: u26 :: u27 :: u28 :: u29 :: u30 :: u31 :: u32 :: u33 :: u34 :: u35 :: u36 :: u37 :: u38 :: u39 :: u40 :: u41 :: u42 :: u43 :: u44 :: u45 :: u46 :: u47 :: u48 :: u49 :: u50 :: u51 :: u52 :: u53 :: u54 :: u55 :: u56 :: u57 :: u58 :: u59 :: u60 :: u61 :: u62 :: u63 :: u64 :: u65 :: u66 :: u67 :: u68 :: u69 :: u70 :: u71 :: u72 :: u73 :: u74 :: u75 :: u76 :: u77 :: u78 :: u79 :: u80 :: u81 :: u82 :: u83 :: u84 :: u85 :: u86 :: u87 :: u88 :: u89 :: u90 :: u91 :: u92 :: u93 :: u94 :: u95 :: u96 :: u97 :: u98 :: u99 :: u100 :: u101 :: u102 :: u103 :: u104 :: u105 :: u106 :: u107 :: u108 :: u109 :: u110 :: u111 :: u112 :: u113 :: u114 :: u115 :: u116 :: u117 :: u118 :: u119 :: u120 :: u121 :: u122 :: u123 :: u124 :: u125 :: u126 :: u127 :: u128 :: u129 :: u130 :: u131 :: u132 :: u133 :: u134 :: u135 :: u136 :: u137 :: u138 :: u139 :: u140 :: u141 :: u142 :: u143 :: u144 :: u145 :: u146 :: u147 :: u148 :: u149 :: u150 :: u151 :: u152 :: u153 :: u154 :: u155 :: u156 :: u157 :: u158 :: u159 :: u160 :: u161 :: u162 :: u163 :: u164 :: u165 :: u166 :: u167 :: u168 :: u169 :: u170 :: u171 :: u172 :: u173 :: u174 :: u175 :: u176 :: u177 :: u178 :: u179 :: u180 :: u181 :: u182 :: u183 :: u184 :: u185 :: u186 :: u187 :: u188 :: u189 :: u190 :: u191 :: u192 :: u193 :: u194 :: u195 :: u196 :: u197 :: u198 :: u199 :: u200 :: u201 :: u202 :: u203 :: u204 :: u205 :: u206 :: u207 :: u208 :: u209 :: u210 :: u211 :: u212 :: u213 :: u214 :: u215 :: u216 :: u217 :: u218 :: u219 :: u220 :: u221 :: u222 :: u223 :: u224 :: u225 :: u226 :: u227 :: u228 :: u229 :: u230 :: u231 :: u232 :: u233 :: u234 :: u235 :: []), defers := [] } (w.alloc (.cells #[.int .i64 0, .int .i64 0] 24)) := by
  simp [tailR, fstR, Tryd.f11] at hc
  subst hc
  have hk00 : (0 : Int) ≤ (k : Int) := by omega
  go_upto_region 32 with fail
  go_cut [221] from 23 (fun c wx => c = .bool (decide (¬ ((eb = true ∨ wb = true) ∧ cb = true ∧ s.size = k + 6 ∧ 0 ≤ h2 ∧ h2 ≤ 23 ∧ 0 ≤ m2 ∧ m2 ≤ 59))) ∧ wx = w.alloc (.cells #[.int .i64 0, .int .i64 0] 24))
  case first =>
    clear HO HN
    cases eb
    · cases wb
      · have hbad : decide (¬ ((false = true ∨ false = true) ∧ cb = true ∧ s.size = k + 6 ∧ 0 ≤ h2 ∧ h2 ≤ 23 ∧ 0 ≤ m2 ∧ m2 ≤ 59)) = true := decide_eq_true (by simp)
        as_aux_lemma => (go_wp2_with fail; go_meet; exact ⟨congrArg Value.bool (show _ = decide (_) from hbad.symm), rfl⟩)
      · cases cb
        · have hbad : decide (¬ ((false = true ∨ true = true) ∧ false = true ∧ s.size = k + 6 ∧ 0 ≤ h2 ∧ h2 ≤ 23 ∧ 0 ≤ m2 ∧ m2 ≤ 59)) = true := decide_eq_true (by simp)
          as_aux_lemma => (go_wp2_with fail; go_meet; exact ⟨congrArg Value.bool (show _ = decide (_) from hbad.symm), rfl⟩)
        · by_cases z0 : ¬ (s.size : Int) = (k : Int) + 6
          · have q0 : ((s.size : Int) != (k : Int) + 6) = true := by simp; omega
            have hbad : decide (¬ ((false = true ∨ true = true) ∧ true = true ∧ s.size = k + 6 ∧ 0 ≤ h2 ∧ h2 ≤ 23 ∧ 0 ≤ m2 ∧ m2 ≤ 59)) = true := decide_eq_true (by omega)
            as_aux_lemma => (go_wp2_with fail; go_meet; exact ⟨congrArg Value.bool (show _ = decide (_) from hbad.symm), rfl⟩)
          · have q0 : ((s.size : Int) != (k : Int) + 6) = false := by simp; omega
            by_cases z1 : h2 < 0
            · have q1 : decide (h2 < 0) = true := decide_eq_true z1
              have hbad : decide (¬ ((false = true ∨ true = true) ∧ true = true ∧ s.size = k + 6 ∧ 0 ≤ h2 ∧ h2 ≤ 23 ∧ 0 ≤ m2 ∧ m2 ≤ 59)) = true := decide_eq_true (by omega)
              as_aux_lemma => (go_wp2_with fail; go_meet; exact ⟨congrArg Value.bool (show _ = decide (_) from hbad.symm), rfl⟩)
            · have q1 : decide (h2 < 0) = false := decide_eq_false z1
              by_cases z2 : 23 < h2
              · have q2 : decide (23 < h2) = true := decide_eq_true z2
                have hbad : decide (¬ ((false = true ∨ true = true) ∧ true = true ∧ s.size = k + 6 ∧ 0 ≤ h2 ∧ h2 ≤ 23 ∧ 0 ≤ m2 ∧ m2 ≤ 59)) = true := decide_eq_true (by omega)
                as_aux_lemma => (go_wp2_with fail; go_meet; exact ⟨congrArg Value.bool (show _ = decide (_) from hbad.symm), rfl⟩)
              · have q2 : decide (23 < h2) = false := decide_eq_false z2
                by_cases z3 : m2 < 0
                · have q3 : decide (m2 < 0) = true := decide_eq_true z3
                  have hbad : decide (¬ ((false = true ∨ true = true) ∧ true = true ∧ s.size = k + 6 ∧ 0 ≤ h2 ∧ h2 ≤ 23 ∧ 0 ≤ m2 ∧ m2 ≤ 59)) = true := decide_eq_true (by omega)
                  as_aux_lemma => (go_wp2_with fail; go_meet; exact ⟨congrArg Value.bool (show _ = decide (_) from hbad.symm), rfl⟩)
                · have q3 : decide (m2 < 0) = false := decide_eq_false z3
                  by_cases z4 : 59 < m2
                  · have q4 : decide (59 < m2) = true := decide_eq_true z4
                    have hbad : decide (¬ ((false = true ∨ true = true) ∧ true = true ∧ s.size = k + 6 ∧ 0 ≤ h2 ∧ h2 ≤ 23 ∧ 0 ≤ m2 ∧ m2 ≤ 59)) = true := decide_eq_true (by omega)
                    as_aux_lemma => (go_wp2_with fail; go_meet; exact ⟨congrArg Value.bool (show _ = decide (_) from hbad.symm), rfl⟩)
                  · have q4 : decide (59 < m2) = false := decide_eq_false z4
                    have hbad : decide (¬ ((false = true ∨ true = true) ∧ true = true ∧ s.size = k + 6 ∧ 0 ≤ h2 ∧ h2 ≤ 23 ∧ 0 ≤ m2 ∧ m2 ≤ 59)) = false := decide_eq_false (by simp; omega)
                    as_aux_lemma => (go_wp2_with fail; go_meet; exact ⟨congrArg Value.bool (show _ = decide (_) from hbad.symm), rfl⟩)
    · cases cb
      · have hbad : decide (¬ ((true = true ∨ wb = true) ∧ false = true ∧ s.size = k + 6 ∧ 0 ≤ h2 ∧ h2 ≤ 23 ∧ 0 ≤ m2 ∧ m2 ≤ 59)) = true := decide_eq_true (by simp)
        as_aux_lemma => (go_wp2_with fail; go_meet; exact ⟨congrArg Value.bool (show _ = decide (_) from hbad.symm), rfl⟩)
      · by_cases z0 : ¬ (s.size : Int) = (k : Int) + 6
        · have q0 : ((s.size : Int) != (k : Int) + 6) = true := by simp; omega
          have hbad : decide (¬ ((true = true ∨ wb = true) ∧ true = true ∧ s.size = k + 6 ∧ 0 ≤ h2 ∧ h2 ≤ 23 ∧ 0 ≤ m2 ∧ m2 ≤ 59)) = true := decide_eq_true (by omega)
          as_aux_lemma => (go_wp2_with fail; go_meet; exact ⟨congrArg Value.bool (show _ = decide (_) from hbad.symm), rfl⟩)
        · have q0 : ((s.size : Int) != (k : Int) + 6) = false := by simp; omega
          by_cases z1 : h2 < 0
          · have q1 : decide (h2 < 0) = true := decide_eq_true z1
            have hbad : decide (¬ ((true = true ∨ wb = true) ∧ true = true ∧ s.size = k + 6 ∧ 0 ≤ h2 ∧ h2 ≤ 23 ∧ 0 ≤ m2 ∧ m2 ≤ 59)) = true := decide_eq_true (by omega)
            as_aux_lemma => (go_wp2_with fail; go_meet; exact ⟨congrArg Value.bool (show _ = decide (_) from hbad.symm), rfl⟩)
          · have q1 : decide (h2 < 0) = false := decide_eq_false z1
            by_cases z2 : 23 < h2
            · have q2 : decide (23 < h2) = true := decide_eq_true z2
              have hbad : decide (¬ ((true = true ∨ wb = true) ∧ true = true ∧ s.size = k + 6 ∧ 0 ≤ h2 ∧ h2 ≤ 23 ∧ 0 ≤ m2 ∧ m2 ≤ 59)) = true := decide_eq_true (by omega)
              as_aux_lemma => (go_wp2_with fail; go_meet; exact ⟨congrArg Value.bool (show _ = decide (_) from hbad.symm), rfl⟩)
            · have q2 : decide (23 < h2) = false := decide_eq_false z2
              by_cases z3 : m2 < 0
              · have q3 : decide (m2 < 0) = true := decide_eq_true z3
                have hbad : decide (¬ ((true = true ∨ wb = true) ∧ true = true ∧ s.size = k + 6 ∧ 0 ≤ h2 ∧ h2 ≤ 23 ∧ 0 ≤ m2 ∧ m2 ≤ 59)) = true := decide_eq_true (by omega)
                as_aux_lemma => (go_wp2_with fail; go_meet; exact ⟨congrArg Value.bool (show _ = decide (_) from hbad.symm), rfl⟩)
              · have q3 : decide (m2 < 0) = false := decide_eq_false z3
                by_cases z4 : 59 < m2
                · have q4 : decide (59 < m2) = true := decide_eq_true z4
                  have hbad : decide (¬ ((true = true ∨ wb = true) ∧ true = true ∧ s.size = k + 6 ∧ 0 ≤ h2 ∧ h2 ≤ 23 ∧ 0 ≤ m2 ∧ m2 ≤ 59)) = true := decide_eq_true (by omega)
                  as_aux_lemma => (go_wp2_with fail; go_meet; exact ⟨congrArg Value.bool (show _ = decide (_) from hbad.symm), rfl⟩)
                · have q4 : decide (59 < m2) = false := decide_eq_false z4
                  have hbad : decide (¬ ((true = true ∨ wb = true) ∧ true = true ∧ s.size = k + 6 ∧ 0 ≤ h2 ∧ h2 ≤ 23 ∧ 0 ≤ m2 ∧ m2 ≤ 59)) = false := decide_eq_false (by simp; omega)
                  as_aux_lemma => (go_wp2_with fail; go_meet; exact ⟨congrArg Value.bool (show _ = decide (_) from hbad.symm), rfl⟩)
  case rest =>
    obtain ⟨rfl, rfl⟩ := hcut
    by_cases hb : (eb = true ∨ wb = true) ∧ cb = true ∧ s.size = k + 6 ∧ 0 ≤ h2 ∧ h2 ≤ 23 ∧ 0 ≤ m2 ∧ m2 ≤ 59
    · rw [decide_eq_false (fun z => z hb)]
      cases eb
      · have HR := hide (unhide HO (h2 * 3600 + m2 * 60) (by rw [if_pos hb, if_neg (by decide)]))
        obtain ⟨_, _, _, g1, g2, g3, g4⟩ := hb
        clear HO HN
        go_wp2
        refine bodyPost_ret (ret_rparse (m := w.heap.size) _ (D * 86400 + (hh * 3600 + mi * 60 + ss) + (h2 * 3600 + m2 * 60)) (v : Int) 0 (IL.new w _ _) _ rfl rfl) rfl ?_
        exact ⟨by rw [← unhide HR]; rfl, (Below.refl _ _).alloc (Nat.le_refl _) _⟩
      · have HR := hide (unhide HO (-(h2 * 3600 + m2 * 60)) (by rw [if_pos hb, if_pos rfl]))
        obtain ⟨_, _, _, g1, g2, g3, g4⟩ := hb
        clear HO HN
        go_wp2
        refine bodyPost_ret (ret_rparse (m := w.heap.size) _ (D * 86400 + (hh * 3600 + mi * 60 + ss) + -(h2 * 3600 + m2 * 60)) (v : Int) 0 (IL.new w _ _) _ rfl rfl) rfl ?_
        exact ⟨by rw [← unhide HR]; rfl, (Below.refl _ _).alloc (Nat.le_refl _) _⟩
    · rw [decide_eq_true hb]
      have HR := hide (unhide HN (if_neg hb))
      clear HO HN hb
      go_wp2
      refine bodyPost_ret (ret_rparse (m := w.heap.size) _ 0 0 13 (IL.new w 0 0) _ rfl rfl) rfl ?_
      exact ⟨by rw [← unhide HR]; rfl, (Below.refl _ _).alloc (Nat.le_refl _) _⟩
end Go.Proofs.YtemcilikchlaiaaDoor.st
