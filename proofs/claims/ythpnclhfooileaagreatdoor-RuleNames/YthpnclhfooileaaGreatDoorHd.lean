/- Package rule: Match. -/
import Derived.Test.YthpnclhfooileaaGreatDoorHc
import Derived.Test.YthpnclhfooileaaGreatDoorShelf
import Derived.Test.YthpnclhfooileaaGreatDoorJp
namespace Go.Proofs.YthpnclhfooileaaGreatDoor.ru
open Go.RowKit

/-- The length that the library looks up is a number, whichever. -/
def MaxL (w : World) : Prop := ∃ m : Int, w.cell? ⟨3, 0, none⟩ = some (.int .i64 m)
def tw (l : List UInt8) : ByteArray := ⟨l.toArray⟩
theorem bl_tw (l : List UInt8) : bl (tw l) = l := rfl
theorem tw_bl (s : ByteArray) : tw (bl s) = s := rfl
theorem tw_size (l : List UInt8) : (tw l).size = l.length := List.size_toArray
theorem str_eq (s : ByteArray) (l : List UInt8) : (s.toList == (tw l).toList) = decide (bl s = l) := by
  apply bool_of
  rw [beq_iff_eq, decide_eq_true_iff, ByteArray.toList_eq, ByteArray.toList_eq]
  exact Iff.rfl
theorem cutPrefix_tw (s p : List UInt8) (w : World) : Calls Tryz.prog 16 #[.string (tw s), .string (tw p)] w fun e w' => e = .returned (.tuple #[.string (tw (Lib.trimPrefix s p)), .bool (Lib.hasPrefix s p)]) ∧ w' = w := Tryz.strings_CutPrefix (tw s) (tw p) w
theorem hasSuffix_tw (s p : List UInt8) (w : World) (h : s.length ≤ 9223372036854775807) : Calls Tryz.prog 17 #[.string (tw s), .string (tw p)] w fun e w' => e = .returned (.bool (Lib.hasSuffix s p)) ∧ w' = w := Tryz.strings_HasSuffix (tw s) (tw p) w (by rw [tw_size]; exact h)
theorem cut_tw (s p : List UInt8) (w : World) (h : s.length < 4294967281) (hm : MaxL w) : Calls Tryz.prog 18 #[.string (tw s), .string (tw p)] w fun e w' => e = .returned (.tuple #[.string (tw (Lib.cut s p).1), .string (tw (Lib.cut s p).2.1), .bool (Lib.cut s p).2.2]) ∧ ∃ n, w' = w.drewN n := by
  obtain ⟨m, hm⟩ := hm
  exact Tryz.strings_Cut (tw s) (tw p) m w (by rw [tw_size]; exact h) hm
theorem cutStar_tw (l : List UInt8) (w : World) (h : l.length ≤ 35184372088832) : Calls Tryz.prog 15 #[.string (tw l)] w fun e w' => e = .returned (csV (cs l)) ∧ Below w.heap.size w w' := cutStar_any (tw l) w (by rw [tw_size]; exact h)
theorem csV_is {l a b : List UInt8} {m : Bool} (h : cs l = (a, b, m)) : csV (cs l) = .tuple #[.string (tw a), .string (tw b), .bool m] := by rw [h]; rfl
theorem MaxL.keep {w w' : World} (h : MaxL w) (hb : Below w.heap.size w w') : MaxL w' := by
  obtain ⟨m, hm⟩ := h
  exact ⟨m, keepC' hb hm⟩
theorem MaxL.drewN {w : World} (h : MaxL w) (n : Nat) : MaxL (w.drewN n) := h

set_option maxRecDepth 100000 in
set_option maxHeartbeats 3200000 in
theorem match_any (p s : ByteArray) (w : World) (hp : p.size ≤ 35184372088832) (hs : s.size < 4294967281) (hG : MaxL w) :
    Calls Tryz.prog 9 #[.string p, .string s] w fun e w' => e = .returned (.bool (mch (prt (bl p)) (bl s))) ∧ Below w.heap.size w w' := by
  have hlp : (bl p).length ≤ 35184372088832 := by rw [bl_len]; exact hp
  have hls : (bl s).length < 4294967281 := by rw [bl_len]; exact hs
  have C0 := hide (cutStar_tw (bl p) w hlp)
  rw [tw_bl] at C0
  have HG := hide hG
  obtain ⟨a, b, m, hc⟩ : ∃ a b m, cs (bl p) = (a, b, m) := ⟨_, _, _, rfl⟩
  rw [csV_is hc] at C0
  have hcl := cs_len (bl p)
  rw [hc] at hcl
  have EQ := str_eq s a
  obtain ⟨res, hres⟩ : ∃ res, mch (prt (bl p)) (bl s) = res := ⟨_, rfl⟩
  rw [hres]
  cases m with
  | false =>
    have h1 := mt_whole (bl p) (bl s) (by rw [hc])
    rw [hc, hres] at h1
    have h2 : (s.toList == (tw a).toList) = res := by rw [EQ, h1]
    clear EQ h1 hres hcl hc hlp hls hG
    go_enter Tryz.func9, Tryz.ntmps9
    go_wp2_with fail
    refine (unhide C0).mono ?_
    rintro e w1 ⟨rfl, hb1⟩
    clear C0
    go_wp2
    go_ret
    exact ⟨rfl, hb1⟩
  | true =>
    have C1 := hide (fun u => cutPrefix_tw (bl s) a u)
    rw [tw_bl] at C1
    have htl := trim_len (bl s) a
    have hbl : b.length ≤ 35184372088832 := by have := hcl.2 rfl; simp only at this; omega
    have h1 : res = (Lib.hasPrefix (bl s) a && mch ((true, 42) :: prt b) (Lib.trimPrefix (bl s) a)) := by
      cases hpre : Lib.hasPrefix (bl s) a with
      | false =>
        have h1 := mt_no (bl p) (bl s) (by rw [hc]) (by rw [hc]; exact hpre)
        rw [hres] at h1
        rw [h1, Bool.false_and]
      | true =>
        have h1 := mt_first (bl p) (bl s) (by rw [hc]) (by rw [hc]; exact hpre)
        rw [hres, hc] at h1
        rw [h1, Bool.true_and]
    have h1' := hide h1
    generalize Lib.trimPrefix (bl s) a = t at *
    generalize Lib.hasPrefix (bl s) a = f0 at *
    clear EQ hres hcl hc h1 hG
    go_enter Tryz.func9, Tryz.ntmps9
    go_wp2_with fail
    refine (unhide C0).mono ?_
    rintro e w1 ⟨rfl, hb1⟩
    clear C0
    go_wp2_with fail
    refine (unhide C1 _).mono ?_
    rintro e w2 ⟨rfl, rfl⟩
    clear C1
    go_wp2
    go_loopw [1, 5, 6, 7, 8] (fun v1 v5 v6 v7 v8 wr => ∃ (t b : List UInt8) (f : Bool), t.length < 4294967281 ∧ b.length ≤ 35184372088832 ∧ v1 = .string (tw t) ∧ v6 = .string (tw b) ∧ v8 = .bool f ∧ Hid (res = (f && mch ((true, 42) :: prt b) t)) ∧ Hid (Below w.heap.size w wr)) (fun _ _ v6 _ v8 _ => match v6, v8 with | .string x, .bool true => x.size + 1 | _, _ => 0)
    case atStart => exact ⟨t, b, f0, by omega, hbl, rfl, rfl, rfl, h1', hb1⟩
    case round =>
      clear h1' hb1 hbl htl
      obtain ⟨t, b, f, htl, hbl, rfl, rfl, rfl, HR, HB⟩ := hrel
      cases f with
      | false =>
        have hr : res = false := unhide HR
        subst hr
        go_wp2
        go_ret
        exact ⟨rfl, unhide HB⟩
      | true =>
        have HR1 : Hid (res = mch ((true, 42) :: prt b) t) := unhide HR
        have C2 := hide (fun u => cutStar_tw b u hbl)
        obtain ⟨x, y, m, hc⟩ : ∃ x y m, cs b = (x, y, m) := ⟨_, _, _, rfl⟩
        have hcl := cs_len b
        rw [csV_is hc] at C2
        rw [hc] at hcl
        clear HR
        cases m with
        | false =>
          have C3 := hide (fun u => hasSuffix_tw t x u (by omega))
          have h1 := mt_last b t (by rw [hc])
          rw [← unhide HR1, hc] at h1
          rw [← h1] at C3
          clear HR1 hc hcl h1
          go_wp2_with fail
          refine (unhide C2 _).mono ?_
          rintro e u1 ⟨rfl, hb1⟩
          have HB1 := hide ((unhide HB).trans (hb1.mono (unhide HB).size))
          clear C2 hb1 HB
          go_wp2_with fail
          refine (unhide C3 _).mono ?_
          rintro e u2 ⟨rfl, rfl⟩
          clear C3
          go_wp2
          go_ret
          exact ⟨rfl, unhide HB1⟩
        | true =>
          have C3 := hide (fun u hu => cut_tw t x u htl hu)
          have hlt := hcl.2 rfl
          simp only at hlt
          have hcl2 := cut_len t x
          have HN : Hid (res = ((Lib.cut t x).2.2 && mch ((true, 42) :: prt y) (Lib.cut t x).2.1)) := by
            show res = _
            rw [unhide HR1]
            cases hf : (Lib.cut t x).2.2 with
            | true =>
              have h1 := mt_mid b t (by rw [hc]) (by rw [hc]; exact hf)
              rw [h1, hc, Bool.true_and]
            | false =>
              have h1 := mt_none b t (by rw [hc]) (by rw [hc]; exact hf)
              rw [h1, Bool.false_and]
          generalize (Lib.cut t x).2.2 = f2 at *
          generalize (Lib.cut t x).2.1 = t2 at *
          generalize (Lib.cut t x).1 = t1 at *
          clear HR1 hc hcl
          go_wp2_with fail
          refine (unhide C2 _).mono ?_
          rintro e u1 ⟨rfl, hb1⟩
          have HB1 := hide ((unhide HB).trans (hb1.mono (unhide HB).size))
          clear C2 hb1 HB
          go_wp2_with fail
          refine (unhide C3 _ ((unhide HG).keep (unhide HB1))).mono ?_
          rintro e u2 ⟨rfl, n, rfl⟩
          have HB2 := hide (Below.drewN (unhide HB1) n)
          clear C3 HB1
          go_wp2
          go_roundw
          case rel => exact ⟨t2, y, f2, by omega, by omega, rfl, rfl, rfl, HN, HB2⟩
          case measure =>
            have e1 : (tw y).size < (tw b).size := by rw [tw_size, tw_size]; exact hlt
            cases f2 <;> simp <;> omega
end Go.Proofs.YthpnclhfooileaaGreatDoor.ru
