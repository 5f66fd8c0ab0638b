/- A numeral's exponent: the contract of the method 'exponent' where its power is digits. -/
import Derived.Test.YteenfgomanhjkaaDoorRn
namespace Go.Proofs.YteenfgomanhjkaaDoor.rd
open Go.RowKit

/-- One digit more of a power. -/
def pstep (e : Int) (c : UInt8) : Int := if e < 1099511627776 then e * 10 + ((c.toNat : Int) - 48) else e
/-- A power's size, held where it is far out. -/
def psize (l : List UInt8) : Int := l.foldl pstep 0
/-- The power of ten. -/
def expo (x : nu.Num) : Int := (if x.pn then - psize x.pw.data.toList else psize x.pw.data.toList) - x.fr.size

theorem pstep_bd (e : Int) (c : UInt8) (h0 : 0 ≤ e) (h1 : e ≤ 10995116277770) (hc : 48 ≤ c.toNat ∧ c.toNat ≤ 57) : 0 ≤ pstep e c ∧ pstep e c ≤ 10995116277770 := by
  unfold pstep; split <;> omega
theorem psize_snoc (l : List UInt8) (c : UInt8) : psize (l ++ [c]) = pstep (psize l) c := by
  unfold psize; rw [List.foldl_append]; rfl
theorem psize_bd (l : List UInt8) (h : ∀ c ∈ l, nu.dig c = true) : 0 ≤ psize l ∧ psize l ≤ 10995116277770 := by
  have key : ∀ (l : List UInt8) (e : Int), (∀ c ∈ l, nu.dig c = true) → 0 ≤ e → e ≤ 10995116277770 → 0 ≤ l.foldl pstep e ∧ l.foldl pstep e ≤ 10995116277770 := by
    intro l
    induction l with
    | nil => intro e _ h0 h1; exact ⟨h0, h1⟩
    | cons c r ih =>
      intro e hl h0 h1
      have hc : 48 ≤ c.toNat ∧ c.toNat ≤ 57 := by
        have := hl c (by simp)
        simpa [nu.dig] using this
      have hb := pstep_bd e c h0 h1 hc
      exact ih (pstep e c) (fun c' hc' => hl c' (by simp [hc'])) hb.1 hb.2
  exact key l 0 h (by omega) (by omega)
theorem take_snoc (s : ByteArray) (k : Nat) (h : k < s.size) : s.data.toList.take (k + 1) = s.data.toList.take k ++ [s[k]] := by
  rw [List.take_succ_eq_append_getElem (by simpa using h)]; rfl
theorem take_all (s : ByteArray) : s.data.toList.take s.size = s.data.toList := List.take_of_length_le (by simp)

theorem ret_int {k : IntKind} {a b : Int} (h : a = b) : Ending.returned (.int k a) = .returned (.int k b) := by rw [h]

set_option maxRecDepth 100000 in
set_option maxHeartbeats 400000 in
theorem exponent_any (x : nu.Num) (w : World) (hp : ∀ c ∈ x.pw.data.toList, nu.dig c = true) (hs : x.pw.size ≤ 4611686018427387904) (hf : x.fr.size ≤ 4611686018427387904) :
    Calls Tryd.prog 19 #[.agg #[.bool x.neg, .string x.wh, .string x.fr, .bool x.pn, .string x.pw]] w fun e w' => e = .returned (.int .i64 (expo x)) ∧ Below w.heap.size w w' := by
  obtain ⟨neg, wh, fr, pn, pw⟩ := x
  simp only at hp hs hf ⊢
  have HE : Hid (expo ⟨neg, wh, fr, pn, pw⟩ = (if pn then - psize pw.data.toList else psize pw.data.toList) - fr.size) := rfl
  generalize expo ⟨neg, wh, fr, pn, pw⟩ = ex at HE ⊢
  have HP := hide hp
  clear hp
  go_enter Tryd.func19, Tryd.ntmps19
  go_wp2
  go_loop [3, 8] (fun e i => ∃ k : Nat, k ≤ pw.size ∧ i = .int .i64 k ∧ e = .int .i64 (psize (pw.data.toList.take k))) (fun _ i => pw.size - (intOf i).toNat)
  case atStart => exact ⟨0, Nat.zero_le _, rfl, rfl⟩
  case round =>
    obtain ⟨k, hk, rfl, rfl⟩ := hrel
    have hb := psize_bd (pw.data.toList.take k) (fun c hc => unhide HP c (List.mem_of_mem_take hc))
    by_cases hlt : k < pw.size
    · have hm : pw[k] ∈ pw.data.toList := by
        have h' : k < pw.data.toList.length := by simpa using hlt
        exact List.getElem_mem h'
      have hc : 48 ≤ pw[k].toNat ∧ pw[k].toNat ≤ 57 := by
        have := unhide HP _ hm
        simpa [nu.dig] using this
      obtain ⟨hc1, hc2⟩ := hc
      have hc1' : (48 : Int) ≤ (pw[k].toNat : Int) := by omega
      have hc2' : (pw[k].toNat : Int) ≤ 57 := by omega
      clear hm hc1 hc2
      have HS : Hid (psize (pw.data.toList.take (k + 1)) = pstep (psize (pw.data.toList.take k)) pw[k]) := by
        show psize _ = _
        rw [take_snoc pw k hlt, psize_snoc]
      by_cases hfar : psize (pw.data.toList.take k) < 1099511627776
      · go_wp2
        go_round
        case rel => exact ⟨k + 1, by omega, by go_num, by rw [HS.out]; unfold pstep; rw [if_pos hfar]⟩
        case measure => simp [intOf]; omega
      · go_wp2
        go_round
        case rel => exact ⟨k + 1, by omega, by go_num, by rw [HS.out]; unfold pstep; rw [if_neg hfar]⟩
        case measure => simp [intOf]; omega
    · obtain rfl : k = pw.size := by omega
      rw [take_all] at hb ⊢
      cases pn
      · go_wp2
        go_ret
        refine ⟨ret_int ?_, (Below.refl _ _).alloc (Nat.le_refl _) _⟩
        rw [HE.out]; simp
      · go_wp2
        go_ret
        refine ⟨ret_int ?_, (Below.refl _ _).alloc (Nat.le_refl _) _⟩
        rw [HE.out]; simp

end Go.Proofs.YteenfgomanhjkaaDoor.rd
