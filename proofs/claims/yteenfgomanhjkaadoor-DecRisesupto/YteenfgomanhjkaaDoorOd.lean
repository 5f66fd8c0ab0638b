/- onlyDigits' contract: the bytes that are digits, in their order. -/
import Derived.Test.YteenfgomanhjkaaDoorEx
import Derived.Laws.IdiomStrings
import Derived.Laws.OwnMore
namespace Go.Proofs.YteenfgomanhjkaaDoor.rd
open Go.RowKit

def vb (c : UInt8) : Value := .int .u8 (c.toNat : Int)
/-- The digits among the first k bytes. -/
def dgs (s : ByteArray) (k : Nat) : List UInt8 := (s.data.toList.take k).filter nu.dig
/-- The digits of a text. -/
def digs (s : ByteArray) : ByteArray := ⟨(s.data.toList.filter nu.dig).toArray⟩

theorem dgs_le (s : ByteArray) (k : Nat) : (dgs s k).length ≤ k := by
  unfold dgs
  exact Nat.le_trans (List.length_filter_le _ _) (List.length_take_le _ _)
theorem dgs_yes (s : ByteArray) (k : Nat) (h : k < s.size) (hd : nu.dig s[k] = true) : dgs s (k + 1) = dgs s k ++ [s[k]] := by
  unfold dgs; rw [take_snoc s k h, List.filter_append]; simp [hd]
theorem dgs_no (s : ByteArray) (k : Nat) (h : k < s.size) (hd : nu.dig s[k] = false) : dgs s (k + 1) = dgs s k := by
  unfold dgs; rw [take_snoc s k h, List.filter_append]; simp [hd]
theorem dgs_all (s : ByteArray) : dgs s s.size = s.data.toList.filter nu.dig := by unfold dgs; rw [take_all]

theorem info5 : (Tryd.prog.info? 5).map (fun i => (i.zero, i.size, i.bytes)) = some (some (.int .u8 0), 1, 1) := by kernel_rfl

theorem own_back {w : World} {B n cap : Nat} {l : List UInt8} (h : w.ownsRow B 5 1 (.slice (some ⟨B, 0, none⟩) n cap) n (l.map vb)) (hn : l.length = n) :
    (convert 63 9 (.slice (some ⟨B, 0, none⟩) n cap)).run Tryd.prog w = .ok (.string ⟨l.toArray⟩) w := by
  subst hn
  refine run_convert_bytes_back w 63 9 5 ⟨B, 0, none⟩ cap l Tryd.underlying63 Tryd.underlying5 Tryd.underlying9 (fun j hj => ?_)
  have := h.cellAt j (by omega)
  have e : (⟨B, 0, none⟩ : Addr).add j = ⟨B, j, none⟩ := by unfold Addr.add; split <;> simp_all
  rw [e, this]
  simp [hj, vb]

set_option maxRecDepth 100000 in
set_option maxHeartbeats 800000 in
theorem onlyDigits_any (s : ByteArray) (w : World) (hs : s.size ≤ 140737488351232) :
    Calls Tryd.prog 29 #[.string s] w fun e w' => e = .returned (.string (digs s)) ∧ Below w.heap.size w w' := by
  obtain ⟨i0, hi, hz0, hz1, hz2⟩ := info_parts info5
  go_enter Tryd.func29, Tryd.ntmps29
  go_wp2_with (at_make; refine wpList_make_own _ rfl _ _ 63 rfl w.heap.size 5 i0 (.int .u8 0) 1 Tryd.underlying63 hi hz0 hz1 _ _ _ s.size rfl rfl (by omega) ?b2 ?b3 (Nat.le_refl _) ?_)
  case b2 => rw [hz2]; omega
  case b3 => unfold maxLen; omega
  intro w0 hown0 hgrow0
  go_wp2
  go_loopw [3, 10] (fun v i wr => ∃ k : Nat, k ≤ s.size ∧ i = .int .i64 k ∧ v = .slice (some ⟨w.heap.size, 0, none⟩) (dgs s k).length s.size ∧
      wr.ownsRow w.heap.size 5 1 (.slice (some ⟨w.heap.size, 0, none⟩) (dgs s k).length s.size) (dgs s k).length ((dgs s k).map vb) ∧ Below w.heap.size w wr)
    (fun _ i _ => s.size - (intOf i).toNat)
  case atStart => exact ⟨0, Nat.zero_le _, rfl, rfl, hown0, (Below.refl _ _).grown hgrow0 (Nat.le_refl _) (fun k h => by cases h)⟩
  case round =>
    obtain ⟨k, hk, rfl, rfl, hown, hnx⟩ := hrel
    have hle := dgs_le s k
    by_cases hlt : k < s.size
    · by_cases hd : nu.dig s[k] = true
      · have hd' : 48 ≤ s[k].toNat ∧ s[k].toNat ≤ 57 := by simpa [nu.dig] using hd
        obtain ⟨d1, d2⟩ := hd'
        have d1' : (48 : Int) ≤ (s[k].toNat : Int) := by omega
        have d2' : (s[k].toNat : Int) ≤ 57 := by omega
        have HS := hide (dgs_yes s k hlt hd)
        clear hd d1 d2
        go_wp2_with (at_builtin; refine wpList_append_fits _ rfl _ _ 63 rfl w.heap.size 5 i0 1 Tryd.underlying63 hi hz1 w.heap.size (dgs s k).length s.size _ rfl (hown.alloc _) ⟨wr.heap.size, 0, none⟩ 1 1 [vb s[k]] rfl rfl ?c1 ?c2 (by omega) ?_)
        case c1 =>
          intro j u hj
          match j, hj with
          | 0, hj => simp at hj; subst hj; simp [Addr.add, vb]
        case c2 => intro u hu; simp at hu; subst hu; rfl
        intro w1 hown1 hgrow1
        go_wp2
        go_roundw
        case rel =>
          have e : (dgs s (k + 1)).length = (dgs s k).length + 1 := by rw [HS.out]; simp
          have e2 : (dgs s (k + 1)).map vb = (dgs s k).map vb ++ [vb s[k]] := by rw [HS.out]; simp
          refine ⟨k + 1, by omega, by go_num, by rw [e], by rw [e, e2]; exact hown1, (hnx.alloc hnx.size _).grown hgrow1 (by simp; have := hnx.size; omega) (fun k hk => by cases hk; exact Nat.le_refl _)⟩
        case measure => simp [intOf]; omega
      · have hd0 : nu.dig s[k] = false := by simpa using hd
        have HS := hide (dgs_no s k hlt hd0)
        have hd' : ¬ (48 ≤ s[k].toNat ∧ s[k].toNat ≤ 57) := by simpa [nu.dig] using hd
        clear hd hd0
        by_cases d1 : (48 : Int) ≤ (s[k].toNat : Int)
        · have d2 : ¬ (s[k].toNat : Int) ≤ 57 := by omega
          clear hd'
          go_wp2
          go_roundw
          case rel => exact ⟨k + 1, by omega, by go_num, by rw [HS.out], by rw [HS.out]; exact hown, hnx⟩
          case measure => simp [intOf]; omega
        · clear hd'
          go_wp2
          go_roundw
          case rel => exact ⟨k + 1, by omega, by go_num, by rw [HS.out], by rw [HS.out]; exact hown, hnx⟩
          case measure => simp [intOf]; omega
    · obtain rfl : k = s.size := by omega
      have hcv := own_back hown rfl
      go_wp2
      go_ret
      refine ⟨?_, hnx⟩
      unfold digs
      rw [← dgs_all]
      rfl

end Go.Proofs.YteenfgomanhjkaaDoor.rd
