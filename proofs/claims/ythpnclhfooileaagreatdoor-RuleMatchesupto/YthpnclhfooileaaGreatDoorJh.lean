/- The law's plain: a text as a pattern that speaks of it alone. -/
import Derived.Test.YthpnclhfooileaaGreatDoorJf
import Derived.Test.YthpnclhfooileaaGreatDoorJg
import Derived.Lib.ConvBytes
import Derived.Lib.UnsafeStr
namespace Go.Proofs.YthpnclhfooileaaGreatDoor.ru
open Go.RowKit

def vb (c : UInt8) : Value := .int .u8 (c.toNat : Int)
theorem infoU : (Tryz.prog.info? 5).map (fun i => (i.zero, i.size, i.bytes)) = some (some (.int .u8 0), 1, 1) := by kernel_rfl
/-- Bytes in a row of the call's own. -/
def OU (w : World) (B : Nat) (v : Value) (l : List UInt8) : Prop := w.ownsRow B 5 1 v l.length (l.map vb)
theorem conv_any {w : World} {B : Nat} {v : Value} {l : List UInt8} (h : OU w B v l) : (convert 65 9 v).run Tryz.prog w = .ok (.string ⟨l.toArray⟩) w := by
  obtain ⟨hl, ⟨rfl, h0⟩ | ⟨g, cap, cur, rfl, hb, hg, hc, hm, hs, ht⟩⟩ := h
  · have : l = [] := List.eq_nil_of_length_eq_zero h0
    subst this
    rw [run_convert_bytes_string w 65 9 5 none 0 0 Tryz.underlying65 Tryz.underlying5 Tryz.underlying9]
    rfl
  · refine run_convert_bytes_back w 65 9 5 ⟨g, 0, none⟩ cap l Tryz.underlying65 Tryz.underlying5 Tryz.underlying9 (fun j hj => ?_)
    have e : (⟨g, 0, none⟩ : Addr).add j = ⟨g, j, none⟩ := by unfold Addr.add; split <;> simp_all
    rw [e, blk_cell hg]
    have h1 : (cur.toList.take (l.length * 1))[j]? = (l.map vb)[j]? := by rw [ht]
    rw [List.getElem?_take, if_pos (by omega), List.getElem?_map, List.getElem?_eq_getElem hj] at h1
    simpa [vb] using h1
theorem esc_at (s : ByteArray) (k : Nat) (h : k < s.size) : esc (s.data.toList.take (k + 1)) = esc (s.data.toList.take k) ++ (if s[k] = 42 ∨ s[k] = 92 then [92, s[k]] else [s[k]]) := by
  rw [List.take_succ_eq_append_getElem (by rw [blen]; exact h)]
  unfold esc
  rw [List.flatMap_append]
  simp
  rfl
theorem esc_len (l : List UInt8) : (esc l).length ≤ 2 * l.length := by
  induction l with
  | nil => exact Nat.le_refl _
  | cons c l ih =>
    have e : esc (c :: l) = (if c = 42 ∨ c = 92 then [92, c] else [c]) ++ esc l := rfl
    rw [e, List.length_append, List.length_cons]
    split <;> simp <;> omega

set_option maxRecDepth 100000 in
set_option maxHeartbeats 3200000 in
theorem plain_any (s : ByteArray) (w : World) (hs : s.size ≤ 1099511627776) :
    Calls Tryz.prog 11 #[.string s] w fun e w' => e = .returned (.string ⟨(esc s.data.toList).toArray⟩) ∧ Below w.heap.size w w' := by
  obtain ⟨i0, hi, hz0, hz1, hz2⟩ := info_parts infoU
  obtain ⟨out, hout⟩ : ∃ o : List UInt8, esc s.data.toList = o := ⟨_, rfl⟩
  have HO := hide hout
  rw [hout]
  clear hout
  go_enter Tryz.func11, Tryz.ntmps11
  go_wp2
  go_loopw [3, 4] (fun v i wr => ∃ (k : Nat), k ≤ s.size ∧ i = .int .i64 (k : Int) ∧ OU wr w.heap.size v (esc (s.data.toList.take k)) ∧ Below w.heap.size w wr)
    (fun _ i _ => s.size - (intOf i).toNat)
  case atStart => exact ⟨0, Nat.zero_le _, rfl, World.ownsRow_nil _ _ _ _, Below.refl _ _⟩
  case round =>
    obtain ⟨k, hk, rfl, hown, hbel⟩ := hrel
    unfold OU at hown
    have hlen := esc_len (s.data.toList.take k)
    rw [List.length_take, blen] at hlen
    by_cases hlt : k < s.size
    · have hlt' : (k : Int) < (s.size : Int) := by omega
      have HE := hide (esc_at s k hlt)
      clear HO
      by_cases hc : s[k] = 42 ∨ s[k] = 92
      · rw [if_pos hc] at HE
        generalize esc (s.data.toList.take k) = d at *
        by_cases h42 : s[k] = 42
        · have h42' : ((s[k].toNat : Int) == 42) = true := by rw [h42]; rfl
          clear hc h42
          go_wp2_with (at_builtin; refine wpList_append_own _ rfl _ _ 65 rfl w.heap.size 5 i0 (.int .u8 0) 1 1 Tryz.underlying65 hi hz0 hz1 hz2 rfl (by decide) _ _ _ rfl (hown.alloc _) ⟨wr.heap.size, 0, none⟩ 1 1 [vb 92] rfl rfl ?c1 ?c2 ?c3 ?c4 ?c5 ?_)
          case c1 =>
            intro i u hi
            match i, hi with
            | 0, hi => simp at hi; subst hi; simp [Addr.add, vb]
          case c2 => intro u hu; simp at hu; subst hu; rfl
          case c3 => unfold maxLen; omega
          case c4 => omega
          case c5 => have := hbel.size; simp; omega
          intro v' w1 hown1 hgrow1 _
          have hbel1 := (hbel.alloc hbel.size _).grown hgrow1 (by simp; have := hbel.size; omega) (own_ge hown)
          have hl1 : d.length + 1 = (d ++ [92]).length := by simp
          have hm1 : d.map vb ++ [vb 92] = (d ++ [92]).map vb := by simp
          rw [hl1, hm1] at hown1
          have HL1 := hide hl1
          clear hl1 hm1
          go_wp2_with (at_builtin; refine wpList_append_own _ rfl _ _ 65 rfl w.heap.size 5 i0 (.int .u8 0) 1 1 Tryz.underlying65 hi hz0 hz1 hz2 rfl (by decide) _ _ _ rfl (hown1.alloc _) ⟨w1.heap.size, 0, none⟩ 1 1 [vb s[k]] rfl rfl ?d1 ?d2 ?d3 ?d4 ?d5 ?_)
          case d1 =>
            intro i u hi
            match i, hi with
            | 0, hi => simp at hi; subst hi; simp [Addr.add, vb]
          case d2 => intro u hu; simp at hu; subst hu; rfl
          case d3 => unfold maxLen; have := unhide HL1; omega
          case d4 => have := unhide HL1; omega
          case d5 => have := hbel1.size; simp; omega
          intro v2 w2 hown2 hgrow2 _
          go_wp2
          go_roundw
          case rel =>
            refine ⟨k + 1, by omega, by go_num, ?_, (hbel1.alloc hbel1.size _).grown hgrow2 (by simp; have := hbel1.size; omega) (own_ge hown1)⟩
            rw [unhide HE, show d ++ [92, s[k]] = (d ++ [92]) ++ [s[k]] by simp]
            show w2.ownsRow _ _ _ _ _ _
            simpa using hown2
          case measure => simp [intOf]; omega
        · have h92 := hc.resolve_left h42
          have h42' : ((s[k].toNat : Int) == 42) = false := bne42 _ h42
          have h92' : ((s[k].toNat : Int) == 92) = true := by rw [h92]; rfl
          clear hc h42 h92
          go_wp2_with (at_builtin; refine wpList_append_own _ rfl _ _ 65 rfl w.heap.size 5 i0 (.int .u8 0) 1 1 Tryz.underlying65 hi hz0 hz1 hz2 rfl (by decide) _ _ _ rfl (hown.alloc _) ⟨wr.heap.size, 0, none⟩ 1 1 [vb 92] rfl rfl ?e1 ?e2 ?e3 ?e4 ?e5 ?_)
          case e1 =>
            intro i u hi
            match i, hi with
            | 0, hi => simp at hi; subst hi; simp [Addr.add, vb]
          case e2 => intro u hu; simp at hu; subst hu; rfl
          case e3 => unfold maxLen; omega
          case e4 => omega
          case e5 => have := hbel.size; simp; omega
          intro v' w1 hown1 hgrow1 _
          have hbel1 := (hbel.alloc hbel.size _).grown hgrow1 (by simp; have := hbel.size; omega) (own_ge hown)
          have hl1 : d.length + 1 = (d ++ [92]).length := by simp
          have hm1 : d.map vb ++ [vb 92] = (d ++ [92]).map vb := by simp
          rw [hl1, hm1] at hown1
          have HL1 := hide hl1
          clear hl1 hm1
          go_wp2_with (at_builtin; refine wpList_append_own _ rfl _ _ 65 rfl w.heap.size 5 i0 (.int .u8 0) 1 1 Tryz.underlying65 hi hz0 hz1 hz2 rfl (by decide) _ _ _ rfl (hown1.alloc _) ⟨w1.heap.size, 0, none⟩ 1 1 [vb s[k]] rfl rfl ?f1 ?f2 ?f3 ?f4 ?f5 ?_)
          case f1 =>
            intro i u hi
            match i, hi with
            | 0, hi => simp at hi; subst hi; simp [Addr.add, vb]
          case f2 => intro u hu; simp at hu; subst hu; rfl
          case f3 => unfold maxLen; have := unhide HL1; omega
          case f4 => have := unhide HL1; omega
          case f5 => have := hbel1.size; simp; omega
          intro v2 w2 hown2 hgrow2 _
          go_wp2
          go_roundw
          case rel =>
            refine ⟨k + 1, by omega, by go_num, ?_, (hbel1.alloc hbel1.size _).grown hgrow2 (by simp; have := hbel1.size; omega) (own_ge hown1)⟩
            rw [unhide HE, show d ++ [92, s[k]] = (d ++ [92]) ++ [s[k]] by simp]
            show w2.ownsRow _ _ _ _ _ _
            simpa using hown2
          case measure => simp [intOf]; omega
      · rw [if_neg hc] at HE
        generalize esc (s.data.toList.take k) = d at *
        have h42' : ((s[k].toNat : Int) == 42) = false := bne42 _ (fun z => hc (Or.inl z))
        have h92' : ((s[k].toNat : Int) == 92) = false := bne92 _ (fun z => hc (Or.inr z))
        clear hc
        go_wp2_with (at_builtin; refine wpList_append_own _ rfl _ _ 65 rfl w.heap.size 5 i0 (.int .u8 0) 1 1 Tryz.underlying65 hi hz0 hz1 hz2 rfl (by decide) _ _ _ rfl (hown.alloc _) ⟨wr.heap.size, 0, none⟩ 1 1 [vb s[k]] rfl rfl ?g1 ?g2 ?g3 ?g4 ?g5 ?_)
        case g1 =>
          intro i u hi
          match i, hi with
          | 0, hi => simp at hi; subst hi; simp [Addr.add, vb]
        case g2 => intro u hu; simp at hu; subst hu; rfl
        case g3 => unfold maxLen; omega
        case g4 => omega
        case g5 => have := hbel.size; simp; omega
        intro v' w1 hown1 hgrow1 _
        go_wp2
        go_roundw
        case rel =>
          refine ⟨k + 1, by omega, by go_num, ?_, (hbel.alloc hbel.size _).grown hgrow1 (by simp; have := hbel.size; omega) (own_ge hown)⟩
          rw [unhide HE]
          show w1.ownsRow _ _ _ _ _ _
          rw [List.length_append, List.map_append]
          exact hown1
        case measure => simp [intOf]; omega
    · have hlt' : ¬ (k : Int) < (s.size : Int) := by omega
      have hfin := hide (show esc (s.data.toList.take k) = out by rw [← unhide HO, List.take_of_length_le (by rw [blen]; omega)])
      rw [unhide hfin] at hown
      have hcv := conv_any hown
      clear HO hfin hown
      go_wp2
      go_ret
      exact ⟨rfl, hbel⟩
end Go.Proofs.YthpnclhfooileaaGreatDoor.ru
