/- readPower's contract: whatever the text and the place behind the letter: what it answers is the plain function's. -/
import Derived.Test.YteenfgomanhjkaaDoorRd
import Derived.Test.YteenfgomanhjkaaDoorLb
import Derived.Test.YteenfgomanhjkaaDoorNu
import Derived.WalkMore
import Derived.Deep.RegionWith
namespace Go.Proofs.YteenfgomanhjkaaDoor.rd
open Go.RowKit

/-- The reader lies in block b and stands at place k. -/
def Stands (w : World) (b : Nat) (s : ByteArray) (k : Nat) : Prop := w.heap[b]? = some (.cells #[.string s, .int .i64 k] 57 (0, 0))
theorem Stands.c0 {w : World} {b : Nat} {s : ByteArray} {k : Nat} (h : Stands w b s k) : w.cell? ⟨b, 0, none⟩ = some (.string s) := blk_cell h 0
theorem Stands.c1 {w : World} {b : Nat} {s : ByteArray} {k : Nat} (h : Stands w b s k) : w.cell? ⟨b, 1, none⟩ = some (.int .i64 k) := blk_cell h 1
theorem Stands.f1 {w : World} {b : Nat} {s : ByteArray} {k : Nat} (h : Stands w b s k) : w.frozen? ⟨b, 1, none⟩ = false := blk_free h 1

theorem takes_ok (s set : ByteArray) (b k : Nat) (w : World) (h : Stands w b s k) (hk : k < s.size) (hs : s.size ≤ 4611686018427387904) (hi : 0 ≤ Lib.indexByte set.data.toList s[k]) :
    Calls Tryd.prog 32 #[.pointer (some ⟨b, 0, none⟩), .string set] w fun e w' => e = .returned (.bool true) ∧ Stands w' b s (k + 1) ∧ Upd b w w' := by
  refine (takes_yes s set b k w h.c0 h.c1 hk hs h.f1 hi).mono fun e w' ⟨he, n, hn⟩ => ⟨he, ?_, ?_⟩
  · subst hn; exact blk_set h 1 _
  · subst hn; exact (Upd.setCell b 1 w _).trans (Upd.drewN _ _ _)
theorem takes_not (s set : ByteArray) (b k : Nat) (w : World) (h : Stands w b s k) (hk : k ≤ s.size) (hi : (hk' : k < s.size) → Lib.indexByte set.data.toList s[k] < 0) :
    Calls Tryd.prog 32 #[.pointer (some ⟨b, 0, none⟩), .string set] w fun e w' => e = .returned (.bool false) ∧ Stands w' b s k ∧ Upd b w w' := by
  have key : Calls Tryd.prog 32 #[.pointer (some ⟨b, 0, none⟩), .string set] w fun e w' => e = .returned (.bool false) ∧ ∃ n, w' = w.drewN n := by
    by_cases hlt : k < s.size
    · exact takes_no s set b k w h.c0 h.c1 hlt (hi hlt)
    · exact takes_end s set b k w h.c0 h.c1 (by omega)
  refine key.mono fun e w' ⟨he, n, hn⟩ => ⟨he, ?_, ?_⟩
  · subst hn; exact h
  · subst hn; exact Upd.drewN _ _ _

/-- What holds at a label. -/
def AtP (w0 : World) (b : Nat) (s : ByteArray) (res : Option (Bool × ByteArray)) (n l : Nat) (a : Act) (w : World) : Prop :=
  ∃ (k i : Nat) (ng : Bool) (u1 u3 u4 u6 u7 u8 u9 u10 u11 u12 u13 u14 u15 u16 u17 u18 u19 u20 u21 u22 u23 u24 u25 u26 u27 u28 u29 u30 u31 u32 u33 u34 : Value), a = { tmps := #[.pointer (some ⟨b, 0, none⟩), u1, .bool ng, u3, u4, .int .i64 i, u6, u7, u8, u9, u10, u11, u12, u13, u14, u15, u16, u17, u18, u19, u20, u21, u22, u23, u24, u25, u26, u27, u28, u29, u30, u31, u32, u33, u34], defers := [] } ∧ Stands w b s k ∧ Upd b w0 w ∧ k ≤ s.size ∧
    ((l = 0 ∧ ng = false ∧ res = nu.pwFirst s true k ∧ n = 4 * (s.size - k) + 3) ∨ (l = 1 ∧ ng = false ∧ res = nu.pwFirst s false k ∧ n = 4 * (s.size - k) + 2) ∨
     (l = 2 ∧ ng = false ∧ k = i ∧ res = nu.pwFirst s false k ∧ n = 4 * (s.size - k) + 1) ∨ (l = 3 ∧ i ≤ k ∧ res = nu.pwRest s ng i k ∧ n = 4 * (s.size - k)))

set_option maxRecDepth 100000 in
theorem power_first (w0 : World) (b i0 : Nat) (s : ByteArray) (h : Stands w0 b s i0) (hi : i0 ≤ s.size) (hs : s.size ≤ 4611686018427387904) :
    Calls Tryd.prog 33 #[.pointer (some ⟨b, 0, none⟩)] w0 fun e w' => ∃ ng dg ok, e = .returned (.tuple #[.bool ng, .string dg, .bool ok]) ∧ Upd b w0 w' ∧
      (ok = true → nu.power s i0 = some (ng, dg)) ∧ (ok = false → nu.power s i0 = none) := by
  have c1 := h.c1
  go_enter Tryd.func33, Tryd.ntmps33
  go_wp2
  refine wp_scope_labels (AtP w0 b s (nu.power s i0)) ?_ ?_
  · by_cases hA : nu.at_ s i0 = some 45
    · have hlt : i0 < s.size := by
        rcases Nat.lt_or_ge i0 s.size with h' | h'
        · exact h'
        · rw [nu.at_none s i0 (by omega)] at hA; cases hA
      have hc : s[i0] = 45 := by rw [nu.at_some s i0 hlt] at hA; simpa using hA
      have HR : Hid (nu.power s i0 = nu.pwFirst s true (i0 + 1)) := by
        show nu.power s i0 = _
        unfold nu.power; rw [hA]; simp
      clear hA
      have hi : 0 ≤ Lib.indexByte [45] s[i0] := (nu.idx_one 45 s[i0]).2 hc
      clear hc
      go_wp2_with fail
      refine (takes_ok s ⟨#[45]⟩ b i0 _ h hlt hs hi).mono ?_
      rintro e w1 ⟨rfl, hst, hup⟩
      go_wp2_with fail
      go_step3
      show ∃ n, AtP w0 b s (nu.power s i0) n 0 _ w1
      exact ⟨_, i0 + 1, i0, false, _, _, _, _, _, _, _, _, _, _, _, _, _, _, _, _, _, _, _, _, _, _, _, _, _, _, _, _, _, _, _, _, rfl, hst, hup, by omega, .inl ⟨rfl, rfl, HR.out, rfl⟩⟩
    · have hm : (hk' : i0 < s.size) → Lib.indexByte [45] s[i0] < 0 := fun hk' => by
        have := mt (nu.idx_one 45 s[i0]).1 (fun e => hA (by rw [nu.at_some s i0 hk', e]))
        omega
      by_cases hB : nu.at_ s i0 = some 43
      · have hlt : i0 < s.size := by
          rcases Nat.lt_or_ge i0 s.size with h' | h'
          · exact h'
          · rw [nu.at_none s i0 (by omega)] at hB; cases hB
        have hc : s[i0] = 43 := by rw [nu.at_some s i0 hlt] at hB; simpa using hB
        have HR : Hid (nu.power s i0 = nu.pwFirst s false (i0 + 1)) := by
          show nu.power s i0 = _
          unfold nu.power; rw [hB]; simp
        clear hA hB
        have hp : 0 ≤ Lib.indexByte [43] s[i0] := (nu.idx_one 43 s[i0]).2 hc
        clear hc
        have HM := hide hm
        clear hm
        go_wp2_with fail
        refine (takes_not s ⟨#[45]⟩ b i0 _ h hi (unhide HM)).mono ?_
        rintro e w1 ⟨rfl, hst, hup⟩
        go_wp2_with fail
        refine (takes_ok s ⟨#[43]⟩ b i0 _ hst hlt hs hp).mono ?_
        rintro e w2 ⟨rfl, hst2, hup2⟩
        go_wp2_with fail
        go_step3
        show ∃ n, AtP w0 b s (nu.power s i0) n 1 _ w2
        exact ⟨_, i0 + 1, i0, false, _, _, _, _, _, _, _, _, _, _, _, _, _, _, _, _, _, _, _, _, _, _, _, _, _, _, _, _, _, _, _, _, rfl, hst2, hup.trans hup2, by omega, .inr (.inl ⟨rfl, rfl, HR.out, rfl⟩)⟩
      · have hp : (hk' : i0 < s.size) → Lib.indexByte [43] s[i0] < 0 := fun hk' => by
          have := mt (nu.idx_one 43 s[i0]).1 (fun e => hB (by rw [nu.at_some s i0 hk', e]))
          omega
        have HR : Hid (nu.power s i0 = nu.pwFirst s false i0) := by
          show nu.power s i0 = _
          unfold nu.power
          cases hx : nu.at_ s i0 with
          | none => unfold nu.pwFirst; rw [hx]
          | some c => rw [hx] at hA hB; simp only [Option.some.injEq] at hA hB; simp only [hA, hB, if_false]
        clear hA hB
        have HM := hide hm
        have HP := hide hp
        clear hm hp
        go_wp2_with fail
        refine (takes_not s ⟨#[45]⟩ b i0 _ h hi (unhide HM)).mono ?_
        rintro e w1 ⟨rfl, hst, hup⟩
        go_wp2_with fail
        refine (takes_not s ⟨#[43]⟩ b i0 _ hst hi (unhide HP)).mono ?_
        rintro e w2 ⟨rfl, hst2, hup2⟩
        go_wp2_with fail
        go_step3
        show ∃ n, AtP w0 b s (nu.power s i0) n 2 _ w2
        exact ⟨_, i0, i0, false, _, _, _, _, _, _, _, _, _, _, _, _, _, _, _, _, _, _, _, _, _, _, _, _, _, _, _, _, _, _, _, _, rfl, hst2, hup.trans hup2, hi, .inr (.inr (.inl ⟨rfl, rfl, rfl, HR.out, rfl⟩))⟩
  · intro n l a w hJ
    obtain ⟨k, i, ng, u1, u3, u4, u6, u7, u8, u9, u10, u11, u12, u13, u14, u15, u16, u17, u18, u19, u20, u21, u22, u23, u24, u25, u26, u27, u28, u29, u30, u31, u32, u33, u34, rfl, hst, hup, hk, hJ⟩ := hJ
    have c1' := hst.c1
    have c0' := hst.c0
    clear c1 h
    rcases hJ with ⟨rfl, rfl, hres, rfl⟩ | ⟨rfl, rfl, hres, rfl⟩ | ⟨rfl, rfl, rfl, hres, rfl⟩ | ⟨rfl, hik, hres, rfl⟩
    · refine ⟨_, rfl, ?_⟩
      by_cases hd : ∃ hlt : k < s.size, nu.dig s[k] = true
      · obtain ⟨hlt, hd⟩ := hd
        have HR : Hid (nu.power s i0 = nu.pwRest s true k (k + 1)) := by
          show nu.power s i0 = _
          rw [hres]; unfold nu.pwFirst; rw [nu.at_some s k hlt]; simp [hd]
        have hp : 0 ≤ Lib.indexByte [48, 49, 50, 51, 52, 53, 54, 55, 56, 57] s[k] := (nu.idx_digits s[k]).2 hd
        clear hd hres
        go_wp2_with fail
        go_step3
        go_wp2_with fail
        go_step3
        go_wp2_with fail
        refine (takes_ok s ⟨#[48, 49, 50, 51, 52, 53, 54, 55, 56, 57]⟩ b k _ hst hlt hs hp).mono ?_
        rintro e w2 ⟨rfl, hst2, hup2⟩
        go_wp2_with fail
        go_step3
        show ∃ n', n' < _ ∧ AtP w0 b s (nu.power s i0) n' 3 _ w2
        exact ⟨4 * (s.size - (k + 1)), by omega, k + 1, k, true, _, _, _, _, _, _, _, _, _, _, _, _, _, _, _, _, _, _, _, _, _, _, _, _, _, _, _, _, _, _, _, _, rfl, hst2, hup.trans hup2, by omega, .inr (.inr (.inr ⟨rfl, by omega, HR.out, rfl⟩))⟩
      · have HR : Hid (nu.power s i0 = none) := by
          show nu.power s i0 = _
          rw [hres]; unfold nu.pwFirst
          rcases Nat.lt_or_ge k s.size with h' | h'
          · rw [nu.at_some s k h']
            have hf : nu.dig s[k] = false := by cases hx : nu.dig s[k] with | false => rfl | true => exact absurd ⟨h', hx⟩ hd
            simp [hf]
          · rw [nu.at_none s k (by omega)]
        have HP : Hid ((hk' : k < s.size) → Lib.indexByte [48, 49, 50, 51, 52, 53, 54, 55, 56, 57] s[k] < 0) := fun hk' => by
          have := mt (nu.idx_digits s[k]).1 (fun e => hd ⟨hk', e⟩)
          omega
        clear hd hres
        go_wp2_with fail
        go_step3
        go_wp2_with fail
        go_step3
        go_wp2_with fail
        refine (takes_not s ⟨#[48, 49, 50, 51, 52, 53, 54, 55, 56, 57]⟩ b k _ hst hk (unhide HP)).mono ?_
        rintro e w2 ⟨rfl, hst2, hup2⟩
        go_wp2
        try rw [Jumps.ret]
        go_ret3
        exact ⟨false, _, false, rfl, hup.trans hup2, (fun h => by cases h), (fun _ => HR.out)⟩
    · refine ⟨_, rfl, ?_⟩
      by_cases hd : ∃ hlt : k < s.size, nu.dig s[k] = true
      · obtain ⟨hlt, hd⟩ := hd
        have HR : Hid (nu.power s i0 = nu.pwRest s false k (k + 1)) := by
          show nu.power s i0 = _
          rw [hres]; unfold nu.pwFirst; rw [nu.at_some s k hlt]; simp [hd]
        have hp : 0 ≤ Lib.indexByte [48, 49, 50, 51, 52, 53, 54, 55, 56, 57] s[k] := (nu.idx_digits s[k]).2 hd
        clear hd hres
        go_wp2_with fail
        go_step3
        go_wp2_with fail
        refine (takes_ok s ⟨#[48, 49, 50, 51, 52, 53, 54, 55, 56, 57]⟩ b k _ hst hlt hs hp).mono ?_
        rintro e w2 ⟨rfl, hst2, hup2⟩
        go_wp2_with fail
        go_step3
        show ∃ n', n' < _ ∧ AtP w0 b s (nu.power s i0) n' 3 _ w2
        exact ⟨4 * (s.size - (k + 1)), by omega, k + 1, k, false, _, _, _, _, _, _, _, _, _, _, _, _, _, _, _, _, _, _, _, _, _, _, _, _, _, _, _, _, _, _, _, _, rfl, hst2, hup.trans hup2, by omega, .inr (.inr (.inr ⟨rfl, by omega, HR.out, rfl⟩))⟩
      · have HR : Hid (nu.power s i0 = none) := by
          show nu.power s i0 = _
          rw [hres]; unfold nu.pwFirst
          rcases Nat.lt_or_ge k s.size with h' | h'
          · rw [nu.at_some s k h']
            have hf : nu.dig s[k] = false := by cases hx : nu.dig s[k] with | false => rfl | true => exact absurd ⟨h', hx⟩ hd
            simp [hf]
          · rw [nu.at_none s k (by omega)]
        have HP : Hid ((hk' : k < s.size) → Lib.indexByte [48, 49, 50, 51, 52, 53, 54, 55, 56, 57] s[k] < 0) := fun hk' => by
          have := mt (nu.idx_digits s[k]).1 (fun e => hd ⟨hk', e⟩)
          omega
        clear hd hres
        go_wp2_with fail
        go_step3
        go_wp2_with fail
        refine (takes_not s ⟨#[48, 49, 50, 51, 52, 53, 54, 55, 56, 57]⟩ b k _ hst hk (unhide HP)).mono ?_
        rintro e w2 ⟨rfl, hst2, hup2⟩
        go_wp2
        try rw [Jumps.ret]
        go_ret3
        exact ⟨false, _, false, rfl, hup.trans hup2, (fun h => by cases h), (fun _ => HR.out)⟩
    · refine ⟨_, rfl, ?_⟩
      by_cases hd : ∃ hlt : k < s.size, nu.dig s[k] = true
      · obtain ⟨hlt, hd⟩ := hd
        have HR : Hid (nu.power s i0 = nu.pwRest s false k (k + 1)) := by
          show nu.power s i0 = _
          rw [hres]; unfold nu.pwFirst; rw [nu.at_some s k hlt]; simp [hd]
        have hp : 0 ≤ Lib.indexByte [48, 49, 50, 51, 52, 53, 54, 55, 56, 57] s[k] := (nu.idx_digits s[k]).2 hd
        clear hd hres
        go_wp2_with fail
        refine (takes_ok s ⟨#[48, 49, 50, 51, 52, 53, 54, 55, 56, 57]⟩ b k _ hst hlt hs hp).mono ?_
        rintro e w2 ⟨rfl, hst2, hup2⟩
        go_wp2_with fail
        go_step3
        show ∃ n', n' < _ ∧ AtP w0 b s (nu.power s i0) n' 3 _ w2
        exact ⟨4 * (s.size - (k + 1)), by omega, k + 1, k, false, _, _, _, _, _, _, _, _, _, _, _, _, _, _, _, _, _, _, _, _, _, _, _, _, _, _, _, _, _, _, _, _, rfl, hst2, hup.trans hup2, by omega, .inr (.inr (.inr ⟨rfl, by omega, HR.out, rfl⟩))⟩
      · have HR : Hid (nu.power s i0 = none) := by
          show nu.power s i0 = _
          rw [hres]; unfold nu.pwFirst
          rcases Nat.lt_or_ge k s.size with h' | h'
          · rw [nu.at_some s k h']
            have hf : nu.dig s[k] = false := by cases hx : nu.dig s[k] with | false => rfl | true => exact absurd ⟨h', hx⟩ hd
            simp [hf]
          · rw [nu.at_none s k (by omega)]
        have HP : Hid ((hk' : k < s.size) → Lib.indexByte [48, 49, 50, 51, 52, 53, 54, 55, 56, 57] s[k] < 0) := fun hk' => by
          have := mt (nu.idx_digits s[k]).1 (fun e => hd ⟨hk', e⟩)
          omega
        clear hd hres
        go_wp2_with fail
        refine (takes_not s ⟨#[48, 49, 50, 51, 52, 53, 54, 55, 56, 57]⟩ b k _ hst hk (unhide HP)).mono ?_
        rintro e w2 ⟨rfl, hst2, hup2⟩
        go_wp2
        try rw [Jumps.ret]
        go_ret3
        exact ⟨false, _, false, rfl, hup.trans hup2, (fun h => by cases h), (fun _ => HR.out)⟩
    · refine ⟨_, rfl, ?_⟩
      by_cases hd : ∃ hlt : k < s.size, nu.dig s[k] = true
      · obtain ⟨hlt, hd⟩ := hd
        have HR : Hid (nu.power s i0 = nu.pwRest s ng i (k + 1)) := by
          show nu.power s i0 = _
          rw [hres]; unfold nu.pwRest; rw [nu.nd_yes s k hlt hd, show k + (nu.nd s (k + 1) + 1) = k + 1 + nu.nd s (k + 1) by omega]
        have hp : 0 ≤ Lib.indexByte [48, 49, 50, 51, 52, 53, 54, 55, 56, 57] s[k] := (nu.idx_digits s[k]).2 hd
        clear hd hres
        go_wp2_with fail
        refine (takes_ok s ⟨#[48, 49, 50, 51, 52, 53, 54, 55, 56, 57]⟩ b k _ hst hlt hs hp).mono ?_
        rintro e w2 ⟨rfl, hst2, hup2⟩
        go_wp2_with fail
        go_step3
        show ∃ n', n' < _ ∧ AtP w0 b s (nu.power s i0) n' 3 _ w2
        exact ⟨4 * (s.size - (k + 1)), by omega, k + 1, i, ng, _, _, _, _, _, _, _, _, _, _, _, _, _, _, _, _, _, _, _, _, _, _, _, _, _, _, _, _, _, _, _, _, rfl, hst2, hup.trans hup2, by omega, .inr (.inr (.inr ⟨rfl, by omega, HR.out, rfl⟩))⟩
      · have hn : nu.nd s k = 0 := by
          rcases Nat.lt_or_ge k s.size with h' | h'
          · have hf : nu.dig s[k] = false := by cases hx : nu.dig s[k] with | false => rfl | true => exact absurd ⟨h', hx⟩ hd
            exact nu.nd_no s k h' hf
          · exact nu.nd_end s k (by omega)
        have HR : Hid (nu.power s i0 = if k = s.size then some (ng, s.extract i k) else none) := by
          show nu.power s i0 = _
          rw [hres]; unfold nu.pwRest; rw [hn, Nat.add_zero]
        have HP : Hid ((hk' : k < s.size) → Lib.indexByte [48, 49, 50, 51, 52, 53, 54, 55, 56, 57] s[k] < 0) := fun hk' => by
          have := mt (nu.idx_digits s[k]).1 (fun e => hd ⟨hk', e⟩)
          omega
        clear hd hres hn
        go_wp2_with fail
        refine (takes_not s ⟨#[48, 49, 50, 51, 52, 53, 54, 55, 56, 57]⟩ b k _ hst hk (unhide HP)).mono ?_
        rintro e w2 ⟨rfl, hst2, hup2⟩
        have d1 := hst2.c1
        have d0 := hst2.c0
        clear c1' c0' HP
        go_wp2_with fail
        go_quiet ((go_at_call 34; exact Calls.quiet_of (ended_any s b k _ (by exact d0) (by exact d1))))
        go_wp2
        try rw [Jumps.ret]
        go_ret3
        refine ⟨ng, _, _, rfl, (hup.trans hup2).trans (Upd.drewN _ _ _), ?_, ?_⟩
        · intro h
          have h' : (k : Int) = s.size := by simpa using h
          rw [HR.out, if_pos (by omega)]
        · intro h
          have h' : ¬ (k : Int) = s.size := by simpa using h
          rw [HR.out, if_neg (by omega)]

end Go.Proofs.YteenfgomanhjkaaDoor.rd
