/- The reference of package stamp: Parse, from the seconds on. -/
import Derived.Test.YtemcilikchlaiaaDoorKk
namespace Go.Proofs.YtemcilikchlaiaaDoor.st
open Go.RowKit

set_option maxRecDepth 100000 in
set_option maxHeartbeats 12800000 in
theorem rparse_24 (s : ByteArray) (w : World) (y m d hh mi ss D : Int) (k v : Nat) (res : Value) (hk0 : 19 ≤ k) (hk1 : k ≤ 29) (hv : v ≤ 999999999) (hs : s.size ≤ 9223372036854775807)
    (h0 : 0 ≤ hh) (h1 : hh ≤ 23) (i0 : 0 ≤ mi) (i1 : mi ≤ 59) (e0 : 0 ≤ ss) (e1 : ss ≤ 59) (hdb : -800000 ≤ D ∧ D ≤ 3700000)
    (HF : Hid (∀ o, offI s k = some o → parV (some (D * 86400 + (hh * 3600 + mi * 60 + ss) + o, (v : Int))) = res)) (HN : Hid (offI s k = none → parV none = res))
    (u3 u15 u23 u24 u25 u26 u27 u28 u29 u30 u31 u32 u33 u34 u35 u36 u37 u38 u39 u40 u41 u42 u43 u44 u45 u46 u47 u48 u49 u50 u51 u52 u53 u54 u55 u56 u57 u58 u59 u60 u61 u62 u63 u64 u65 u66 u67 u68 u69 u70 u71 u72 u73 u74 u75 u76 u77 u78 u79 u80 u81 u82 u83 u84 u85 u86 u87 u88 u89 u90 u91 u92 u93 u94 u95 u96 u97 u98 u99 u100 u101 u102 u103 u104 u105 u106 u107 u108 u109 u110 u111 u112 u113 u114 u115 u116 u117 u118 u119 u120 u121 u122 u123 u124 u125 u126 u127 u128 u129 u130 u131 u132 u133 u134 u135 u136 u137 u138 u139 u140 u141 u142 u143 u144 u145 u146 u147 u148 u149 u150 u151 u152 u153 u154 u155 u156 u157 u158 u159 u160 u161 u162 u163 u164 u165 u166 u167 u168 u169 u170 u171 u172 u173 u174 u175 u176 u177 u178 u179 u180 u181 u182 u183 u184 u185 u186 u187 u188 u189 u190 u191 u192 u193 u194 u195 u196 u197 u198 u199 u200 u201 u202 u203 u204 u205 u206 u207 u208 u209 u210 u211 u212 u213 u214 u215 u216 u217 u218 u219 u220 u221 u222 u223 u224 u225 u226 u227 u228 u229 u230 u231 u232 u233 u234 u235 : Value) (c : Code) (hc : Tryd.f11.body.map (tailR 24) = some c) :
    Code.wp Tryd.prog c (bodyPost Tryd.prog Tryd.f11 fun e w' => e = .returned res ∧ Below w.heap.size w w') { tmps := List.toArray (.string s :: undef :: .pointer (some ⟨w.heap.size, 0, none⟩) :: u3 :: .int .i64 y :: .int .i64 m :: .int .i64 d :: .int .i64 hh :: .int .i64 mi :: .int .i64 ss :: .bool true :: .int .i64 D :: .int .i64 0 :: .int .i64 (k : Int) :: .int .i64 (v : Int) :: u15 :: undef :: undef :: undef :: undef :: undef :: undef :: undef :: u23 :: u24 :: u25 :: u26 :: u27 :: u28 :: u29 :: u30 :: u31 :: u32 :: u33 :: u34 :: u35 :: u36 :: u37 :: u38 :: u39 :: u40 :: u41 :: u42 :: u43 :: u44 :: u45 :: u46 :: u47 :: u48 :: u49 :: u50 :: u51 :: u52 :: u53 :: u54 :: u55 :: u56 :: u57 :: u58 :: u59 :: u60 :: u61 :: u62 :: u63 :: u64 :: u65 :: u66 :: u67 :: u68 :: u69 :: u70 :: u71 :: u72 :: u73 :: u74 :: u75 :: u76 :: u77 :: u78 :: u79 :: u80 :: u81 :: u82 :: u83 :: u84 :: u85 :: u86 :: u87 :: u88 :: u89 :: u90 :: u91 :: u92 :: u93 :: u94 :: u95 :: u96 :: u97 :: u98 :: u99 :: u100 :: u101 :: u102 :: u103 :: u104 :: u105 :: u106 :: u107 :: u108 :: u109 :: u110 :: u111 :: u112 :: u113 :: u114 :: u115 :: u116 :: u117 :: u118 :: u119 :: u120 :: u121 :: u122 :: u123 :: u124 :: u125 :: u126 :: u127 :: u128 :: u129 :: u130 :: u131 :: u132 :: u133 :: u134 :: u135 :: u136 :: u137 :: u138 :: u139 :: u140 :: u141 :: u142 :: u143 :: u144 :: u145 :: u146 :: u147 :: u148 :: u149 :: u150 :: u151 :: u152 :: u153 :: u154 :: u155 :: u156 :: u157 :: u158 :: u159 :: u160 :: u161 :: u162 :: u163 :: u164 :: u165 :: u166 :: u167 :: u168 :: u169 :: u170 :: u171 :: u172 :: u173 :: u174 :: u175 :: u176 :: u177 :: u178 :: u179 :: u180 :: u181 :: u182 :: u183 :: u184 :: u185 :: u186 :: u187 :: u188 :: u189 :: u190 :: u191 :: u192 :: u193 :: u194 :: u195 :: u196 :: u197 :: u198 :: u199 :: u200 :: u201 :: u202 :: u203 :: u204 :: u205 :: u206 :: u207 :: u208 :: u209 :: u210 :: u211 :: u212 :: u213 :: u214 :: u215 :: u216 :: u217 :: u218 :: u219 :: u220 :: u221 :: u222 :: u223 :: u224 :: u225 :: u226 :: u227 :: u228 :: u229 :: u230 :: u231 :: u232 :: u233 :: u234 :: u235 :: []), defers := [] } (w.alloc (.cells #[.int .i64 0, .int .i64 0] 24)) := by
  simp [tailR, fstR, Tryd.f11] at hc
  subst hc
  have HO : Hid (offI s k = if isI s k 90 = true ∧ k + 1 = s.size then some 0
    else if (isI s k 43 = true ∨ isI s k 45 = true) ∧ isI s (k + 3) 58 = true ∧ s.size = k + 6 ∧ 0 ≤ numI s 2 (k + 1) 0 ∧ numI s 2 (k + 1) 0 ≤ 23 ∧ 0 ≤ numI s 2 (k + 4) 0 ∧ numI s 2 (k + 4) 0 ≤ 59 then
      some (if isI s k 43 = true then -(numI s 2 (k + 1) 0 * 3600 + numI s 2 (k + 4) 0 * 60) else numI s 2 (k + 1) 0 * 3600 + numI s 2 (k + 4) 0 * 60) else none) := rfl
  have Z := hide (fun u => ris_any s k 90 (k : Int) 90 rfl rfl u)
  have A1 := hide (fun u => rnumber_any s (k + 1) 2 ((k : Int) + 1) ((k : Int) + 3) (by omega) (by omega) (by omega) (by omega) u)
  have A2 := hide (fun u => rnumber_any s (k + 4) 2 ((k : Int) + 4) ((k : Int) + 6) (by omega) (by omega) (by omega) (by omega) u)
  have E1 := hide (fun u => ris_any s k 43 (k : Int) 43 rfl rfl u)
  have E2 := hide (fun u => ris_any s k 45 (k : Int) 45 rfl rfl u)
  have E3 := hide (fun u => ris_any s (k + 3) 58 ((k : Int) + 3) 58 (by omega) rfl u)
  generalize numI s 2 (k + 1) 0 = h2 at *
  generalize numI s 2 (k + 4) 0 = m2 at *
  generalize isI s k 90 = zb at *
  generalize isI s k 43 = eb at *
  generalize isI s k 45 = wb at *
  generalize isI s (k + 3) 58 = cb at *
  generalize offI s k = oo at *
  have hk00 : (0 : Int) ≤ (k : Int) := by omega
  go_upto_region 25 with fail
  go_cut [163] from 23 (fun c wx => c = .bool (decide (zb = true ∧ k + 1 = s.size)) ∧ wx = w.alloc (.cells #[.int .i64 0, .int .i64 0] 24))
  case first =>
    clear HF HN HO A1 A2 E1 E2 E3
    go_wp2_with fail
    refine (unhide Z _).mono ?_
    rintro e u ⟨rfl, hu⟩
    obtain rfl := hu.symm
    clear hu
    dsimp only
    cases zb
    · go_wp2_with fail
      go_meet
      exact ⟨by simp, rfl⟩
    · by_cases hq : k + 1 = s.size
      · have hq' : ((k : Int) == (s.size : Int) - 1) = true := by rw [beq_iff_eq]; omega
        go_wp2_with fail
        go_meet
        exact ⟨by rw [decide_eq_true ⟨rfl, hq⟩], rfl⟩
      · have hq' : ((k : Int) == (s.size : Int) - 1) = false := by rw [beq_eq_false_iff_ne]; omega
        go_wp2_with fail
        go_meet
        exact ⟨by rw [decide_eq_false (fun z => hq z.2)], rfl⟩
  case rest =>
    obtain ⟨rfl, rfl⟩ := hcut
    clear Z
    by_cases hz : zb = true ∧ k + 1 = s.size
    · have HR := hide (unhide HF 0 (by rw [unhide HO, if_pos hz]))
      rw [decide_eq_true hz]
      clear HF HN HO A1 A2 E1 E2 E3 hz
      as_aux_lemma =>
        go_wp2
        refine bodyPost_ret (ret_rparse (m := w.heap.size) _ (D * 86400 + (hh * 3600 + mi * 60 + ss)) (v : Int) 0 (IL.new w _ _) _ rfl rfl) rfl ?_
        exact ⟨by rw [← unhide HR, Int.add_zero]; rfl, (Below.refl _ _).alloc (Nat.le_refl _) _⟩
    · have HO2 := hide ((unhide HO).trans (if_neg hz))
      rw [decide_eq_false hz]
      clear HO hz
      go_wp2_with fail
      refine (unhide A1 _).mono ?_
      rintro e u ⟨rfl, hu⟩
      obtain rfl := hu.symm
      clear hu
      go_wp2_with fail
      refine (unhide A2 _).mono ?_
      rintro e u ⟨rfl, hu⟩
      obtain rfl := hu.symm
      clear hu
      go_wp2_with fail
      refine (unhide E1 _).mono ?_
      rintro e u ⟨rfl, hu⟩
      obtain rfl := hu.symm
      clear hu
      go_wp2_with fail
      refine (unhide E2 _).mono ?_
      rintro e u ⟨rfl, hu⟩
      obtain rfl := hu.symm
      clear hu
      clear A1 A2 E1 E2
      go_upto_region 31 with fail
      go_cut [21] from 23 (fun c wx => c = .bool cb ∧ wx = w.alloc (.cells #[.int .i64 0, .int .i64 0] 24))
      case first =>
        clear HF HN HO2
        go_wp2_with fail
        refine (unhide E3 _).mono ?_
        rintro e u ⟨rfl, hu⟩
        obtain rfl := hu.symm
        clear hu
        go_wp2_with fail
        go_meet
        exact ⟨rfl, rfl⟩
      case rest =>
        obtain ⟨rfl, rfl⟩ := hcut
        clear E3
        refine ‹∀ (a : Act) (w : World), Code.wp Tryd.prog _ _ a w → _› _ _ ?_
        refine rparse_32 s w y m d hh mi ss D h2 m2 k v res hk0 hk1 hv hs h0 h1 i0 i1 e0 e1 hdb eb wb cb ?_ ?_ _ _ _ _ _ _ _ _ _ _ _ _ _ _ _ _ _ _ _ _ _ _ _ _ _ _ _ _ _ _ _ _ _ _ _ _ _ _ _ _ _ _ _ _ _ _ _ _ _ _ _ _ _ _ _ _ _ _ _ _ _ _ _ _ _ _ _ _ _ _ _ _ _ _ _ _ _ _ _ _ _ _ _ _ _ _ _ _ _ _ _ _ _ _ _ _ _ _ _ _ _ _ _ _ _ _ _ _ _ _ _ _ _ _ _ _ _ _ _ _ _ _ _ _ _ _ _ _ _ _ _ _ _ _ _ _ _ _ _ _ _ _ _ _ _ _ _ _ _ _ _ _ _ _ _ _ _ _ _ _ _ _ _ _ _ _ _ _ _ _ _ _ _ _ _ _ _ _ _ _ _ _ _ _ _ _ _ _ _ _ _ _ _ _ _ _ _ _ _ _ _ _ _ _ _ _ _ _ _ _ _ _ _ _ _ _ (by kernel_rfl)
        · exact fun o h => unhide HF o (by rw [unhide HO2]; exact h)
        · exact fun h => unhide HN (by rw [unhide HO2]; exact h)
end Go.Proofs.YtemcilikchlaiaaDoor.st
