/- The contract of the reference's digits. -/
import Derived.Test.YtgmjllkkgapjcaaDoorCu
namespace Go.Proofs.YtgmjllkkgapjcaaDoor.rd
open Go.RowKit

/-- A slice of ints, wherever it lies. -/
def Ints (w : World) (v : Value) (zs : List Int) : Prop :=
  (v = .slice none 0 0 ∧ zs = []) ∨ ∃ g cap, v = .slice (some ⟨g, 0, none⟩) zs.length cap ∧ zs.length ≤ cap ∧ cap ≤ 9223372036854775807 ∧ ∀ j, j < zs.length → w.cell? ⟨g, j, none⟩ = some (.int .i64 (zs.getD j 0))
theorem Ints.keep {w w' : World} {v : Value} {zs : List Int} (h : Ints w v zs) (hb : Below w.heap.size w w') : Ints w' v zs := by
  rcases h with h | ⟨g, cap, h1, h2, h3, h4⟩
  · exact .inl h
  · exact .inr ⟨g, cap, h1, h2, h3, fun j hj => keepC hb (h4 j hj)⟩

def iv (z : Int) : Value := .int .i64 z
theorem ints_of_own {w : World} {B : Nat} {v : Value} {zs : List Int} (h : w.ownsRow B 3 1 v zs.length (zs.map iv)) : Ints w v zs := by
  rcases h.2 with ⟨h1, h2⟩ | ⟨g, cap, cur, rfl, hb, hg, hnc, hcm, hcs, htake⟩
  · exact .inl ⟨h1, List.eq_nil_of_length_eq_zero h2⟩
  · refine .inr ⟨g, cap, rfl, hnc, hcm, fun j hj => ?_⟩
    have := h.cellAt j (by omega)
    rw [this]
    simp [hj, iv]

theorem own_ge {w : World} {B : Nat} {e : TypeId} {v : Value} {n : Nat} {xs : List Value} (h : w.ownsRow B e 1 v n xs) : ∀ k, v.ownBlock = some k → B ≤ k := by
  intro k hk
  rcases h.2 with ⟨rfl, _⟩ | ⟨g, cap, cur, rfl, hb, _⟩
  · simp [Value.ownBlock] at hk
  · simp [Value.ownBlock] at hk
    omega
theorem cutN_getD (l : List Int) (j : Nat) (h : j < (cutN l).length) : (cutN l).getD j 0 = l.getD j 0 := by
  obtain ⟨m, hm⟩ := cutN_take l
  rw [hm] at h ⊢
  have hj : j < m := by
    rw [List.length_take] at h
    omega
  simp [List.getD, hj]

/-- The digits of the bytes from place k on, the last one first. -/
def dl (s : ByteArray) (k : Nat) : List Int := ((s.data.toList.drop k).filter nu.dig).reverse.map (fun c : UInt8 => (c.toNat : Int) - 48)
theorem dl_end (s : ByteArray) : dl s s.size = [] := by unfold dl; rw [drop_end]; rfl
theorem dl_yes (s : ByteArray) (k : Nat) (h : k < s.size) (hd : nu.dig s[k] = true) : dl s k = dl s (k + 1) ++ [(s[k].toNat : Int) - 48] := by
  unfold dl; rw [drop_at s k h]; simp [hd]
theorem dl_no (s : ByteArray) (k : Nat) (h : k < s.size) (hd : nu.dig s[k] = false) : dl s k = dl s (k + 1) := by
  unfold dl; rw [drop_at s k h]; simp [hd]
theorem dl_len (s : ByteArray) (k : Nat) : (dl s k).length ≤ s.size - k := by
  unfold dl
  rw [List.length_map, List.length_reverse]
  have h1 := List.length_filter_le nu.dig (s.data.toList.drop k)
  have h2 : (s.data.toList.drop k).length = s.size - k := by rw [List.length_drop]; simp
  omega

theorem info3 : (Tryd.prog.info? 3).map (fun i => (i.zero, i.size, i.bytes)) = some (some (.int .i64 0), 1, 8) := by kernel_rfl

set_option maxRecDepth 100000 in
set_option maxHeartbeats 1600000 in
theorem digits_any (s : ByteArray) (w : World) (hs : s.size ≤ 1099511627776) :
    Calls Tryd.prog 32 #[.string s] w fun e w' => ∃ v, e = .returned v ∧ Ints w' v (cutN (dl s 0)) ∧ Below w.heap.size w w' := by
  obtain ⟨i0, hi, hz0, hz1, hz2⟩ := info_parts info3
  go_enter Tryd.func32, Tryd.ntmps32
  go_wp2
  go_loopw [3, 4] (fun v i wr => ∃ k : Nat, k ≤ s.size ∧ i = .int .i64 ((k : Int) - 1) ∧ wr.ownsRow w.heap.size 3 1 v (dl s k).length ((dl s k).map iv) ∧ Below w.heap.size w wr)
    (fun _ i _ => (intOf i + 1).toNat)
  case atStart => exact ⟨s.size, Nat.le_refl _, rfl, by rw [dl_end]; exact World.ownsRow_nil _ _ _ _, Below.refl _ _⟩
  case round =>
    obtain ⟨k, hk, rfl, hown, hbel⟩ := hrel
    cases k with
    | zero =>
      have hI := ints_of_own hown
      clear hown
      rcases hI with ⟨rfl, hn⟩ | ⟨g, cap, rfl, h2, h3, h4⟩
      · have HN := hide hn
        clear hn
        go_wp2_with fail
        refine (cut_nil _).mono ?_
        rintro e w1 ⟨rfl, rfl⟩
        go_wp2
        go_ret
        exact ⟨_, rfl, .inl ⟨rfl, by rw [HN.out]; rfl⟩, hbel⟩
      · have H4 := hide h4
        clear h4
        go_wp2_with fail
        refine (cut_some g cap (dl s 0) _ h2 h3 (unhide H4)).mono ?_
        rintro e w1 ⟨rfl, rfl⟩
        go_wp2
        go_ret
        refine ⟨_, rfl, .inr ⟨g, cap, rfl, Nat.le_trans (cutN_len _) h2, h3, fun j hj => ?_⟩, hbel⟩
        rw [unhide H4 j (Nat.lt_of_lt_of_le hj (cutN_len _)), cutN_getD _ _ hj]
    | succ j =>
      have hj : j < s.size := by omega
      have hlen := dl_len s (j + 1)
      rw [show ((j + 1 : Nat) : Int) - 1 = (j : Int) by omega]
      by_cases hd : nu.dig s[j] = true
      · have hd' : 48 ≤ s[j].toNat ∧ s[j].toNat ≤ 57 := by simpa [nu.dig] using hd
        obtain ⟨d1, d2⟩ := hd'
        have d1' : (48 : Int) ≤ (s[j].toNat : Int) := by omega
        have d2' : (s[j].toNat : Int) ≤ 57 := by omega
        have HS := hide (dl_yes s j hj hd)
        clear hd d1 d2
        go_wp2_with (at_builtin; refine wpList_append_own _ rfl _ _ 49 rfl w.heap.size 3 i0 (.int .i64 0) 1 8 Tryd.underlying49 hi hz0 hz1 hz2 rfl (by decide) _ _ _ rfl (hown.alloc _) ⟨wr.heap.size, 0, none⟩ 1 1 [iv ((s[j].toNat : Int) - 48)] rfl rfl ?c1 ?c2 ?c3 ?c4 ?c5 ?_)
        case c1 =>
          intro i u hi
          match i, hi with
          | 0, hi => simp at hi; subst hi; simp [Addr.add, iv]
        case c2 => intro u hu; simp at hu; subst hu; rfl
        case c3 => unfold maxLen; omega
        case c4 => omega
        case c5 => have := hbel.size; simp; omega
        intro v' w1 hown1 hgrow1 _
        go_wp2
        go_roundw
        case rel =>
          have e : (dl s j).length = (dl s (j + 1)).length + 1 := by rw [HS.out]; simp
          have e2 : (dl s j).map iv = (dl s (j + 1)).map iv ++ [iv ((s[j].toNat : Int) - 48)] := by rw [HS.out]; simp
          refine ⟨j, by omega, by go_num, by rw [e, e2]; exact hown1, (hbel.alloc hbel.size _).grown hgrow1 (by simp; have := hbel.size; omega) (own_ge hown)⟩
        case measure => simp [intOf]
      · have hd0 : nu.dig s[j] = false := by simpa using hd
        have HS := hide (dl_no s j hj hd0)
        have hd' : ¬ (48 ≤ s[j].toNat ∧ s[j].toNat ≤ 57) := by simpa [nu.dig] using hd
        clear hd hd0
        by_cases d1 : (48 : Int) ≤ (s[j].toNat : Int)
        · have d2 : ¬ (s[j].toNat : Int) ≤ 57 := by omega
          clear hd'
          go_wp2
          go_roundw
          case rel => exact ⟨j, by omega, by go_num, by rw [HS.out]; exact hown, hbel⟩
          case measure => simp [intOf]
        · clear hd'
          go_wp2
          go_roundw
          case rel => exact ⟨j, by omega, by go_num, by rw [HS.out]; exact hown, hbel⟩
          case measure => simp [intOf]
end Go.Proofs.YtgmjllkkgapjcaaDoor.rd
