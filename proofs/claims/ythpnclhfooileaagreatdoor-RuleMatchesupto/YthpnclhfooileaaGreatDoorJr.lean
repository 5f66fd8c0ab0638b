/- path.Get at one name. -/
import Derived.Test.YthpnclhfooileaaGreatDoorJq
namespace Go.Proofs.YthpnclhfooileaaGreatDoor.ru
open Go.RowKit

theorem infoA : (Tryz.prog.info? 146).map (fun i => (i.zero, i.size, i.bytes)) = some (some .nilFunc, 1, 8) := by kernel_rfl
def pathV (sb sc : Nat) : Value := .agg #[.bool true, .bool false, .bool false, .slice (some ⟨sb, 0, none⟩) 1 sc]
def objV (fb c : Nat) : Value := .agg #[.int .i64 5, .bool false, .bool false, .string ⟨#[]⟩, .int .i64 0, .string ⟨#[]⟩, .slice none 0 0, .slice (some ⟨fb, 0, none⟩) 1 c]
/-- The blocks of the call: the answer, and where it starts. -/
structure GW (w wr : World) (fb c : Nat) : Prop where
  r : V8 wr (w.heap.size + 1 + 1 + 1) z8
  s : V8 wr (w.heap.size + 1 + 1 + 1 + 1) #[.int .i64 5, .bool false, .bool false, .string ⟨#[]⟩, .int .i64 0, .string ⟨#[]⟩, .slice none 0 0, .slice (some ⟨fb, 0, none⟩) 1 c]
  below : Below w.heap.size w wr
  size : w.heap.size + 5 ≤ wr.heap.size
theorem GW.start (w : World) (sb sc fb c : Nat) : GW w (((((w.alloc (.cells #[.bool true, .bool false, .bool false, .slice (some ⟨sb, 0, none⟩) 1 sc] 43)).alloc (.cells #[.int .i64 5, .bool false, .bool false, .string ⟨#[]⟩, .int .i64 0, .string ⟨#[]⟩, .slice none 0 0, .slice (some ⟨fb, 0, none⟩) 1 c] 34)).alloc (.cells #[.int .i64 0, .bool false, .bool false, .string ⟨#[]⟩, .int .i64 0, .string ⟨#[]⟩, .slice none 0 0, .slice none 0 0] 34)).alloc (.cells #[.int .i64 0, .bool false, .bool false, .string ⟨#[]⟩, .int .i64 0, .string ⟨#[]⟩, .slice none 0 0, .slice none 0 0] 34)).alloc (.cells #[.int .i64 5, .bool false, .bool false, .string ⟨#[]⟩, .int .i64 0, .string ⟨#[]⟩, .slice none 0 0, .slice (some ⟨fb, 0, none⟩) 1 c] 34)) fb c := by
  refine ⟨?_, ?_, ((((((Below.refl _ _).alloc (Nat.le_refl _) _).alloc (by simp) _).alloc (by simp; omega) _).alloc (by simp; omega) _).alloc (by simp; omega) _), by simp⟩
  · unfold V8
    rw [Below.heap_alloc _ _ _ (by simp)]
    have := Array.getElem?_push_size (xs := (((w.alloc (.cells #[.bool true, .bool false, .bool false, .slice (some ⟨sb, 0, none⟩) 1 sc] 43)).alloc (.cells #[.int .i64 5, .bool false, .bool false, .string ⟨#[]⟩, .int .i64 0, .string ⟨#[]⟩, .slice none 0 0, .slice (some ⟨fb, 0, none⟩) 1 c] 34)).alloc (.cells #[.int .i64 0, .bool false, .bool false, .string ⟨#[]⟩, .int .i64 0, .string ⟨#[]⟩, .slice none 0 0, .slice none 0 0] 34)).heap) (x := (.cells z8 34 (0, 0) : Obj))
    simp only [World.size_alloc] at this
    exact this
  · unfold V8
    have := Array.getElem?_push_size (xs := ((((w.alloc (.cells #[.bool true, .bool false, .bool false, .slice (some ⟨sb, 0, none⟩) 1 sc] 43)).alloc (.cells #[.int .i64 5, .bool false, .bool false, .string ⟨#[]⟩, .int .i64 0, .string ⟨#[]⟩, .slice none 0 0, .slice (some ⟨fb, 0, none⟩) 1 c] 34)).alloc (.cells #[.int .i64 0, .bool false, .bool false, .string ⟨#[]⟩, .int .i64 0, .string ⟨#[]⟩, .slice none 0 0, .slice none 0 0] 34)).alloc (.cells #[.int .i64 0, .bool false, .bool false, .string ⟨#[]⟩, .int .i64 0, .string ⟨#[]⟩, .slice none 0 0, .slice none 0 0] 34)).heap) (x := (.cells #[.int .i64 5, .bool false, .bool false, .string ⟨#[]⟩, .int .i64 0, .string ⟨#[]⟩, .slice none 0 0, .slice (some ⟨fb, 0, none⟩) 1 c] 34 (0, 0) : Obj))
    simp only [World.size_alloc] at this
    exact this
theorem GW.keep {w wr w' : World} {fb c : Nat} (h : GW w wr fb c) (hb : Below wr.heap.size wr w') : GW w w' fb c :=
  ⟨(hb.block _ (by have := h.size; omega)).trans h.r, (hb.block _ (by have := h.size; omega)).trans h.s, h.below.trans (hb.mono h.below.size), Nat.le_trans h.size hb.size⟩

theorem ret_get {m : Nat} (w : World) (a b c d e f g h v : Value) (hv : V8 w m #[a, b, c, d, e, f, g, h]) (tmps : Array Value) (h6 : tmps.getD 6 undef = .pointer (some ⟨m, 0, none⟩)) (h7 : tmps.getD 7 undef = v) :
    (results Tryz.f53 tmps).run Tryz.prog w = .ok (.tuple #[.agg #[a, b, c, d, e, f, g, h], v]) w := by
  have q0 : w.cell? ⟨m, 0, none⟩ = some a := blk_cell hv 0
  have q1 : w.cell? ⟨m, 1, none⟩ = some b := blk_cell hv 1
  have q2 : w.cell? ⟨m, 2, none⟩ = some c := blk_cell hv 2
  have q3 : w.cell? ⟨m, 3, none⟩ = some d := blk_cell hv 3
  have q4 : w.cell? ⟨m, 4, none⟩ = some e := blk_cell hv 4
  have q5 : w.cell? ⟨m, 5, none⟩ = some f := blk_cell hv 5
  have q6 : w.cell? ⟨m, 6, none⟩ = some g := blk_cell hv 6
  have q7 : w.cell? ⟨m, 7, none⟩ = some h := blk_cell hv 7
  rw [results_cell_tmp Tryz.results53, h6, h7]
  simp [go_sem, q0, q1, q2, q3, q4, q5, q6, q7]
theorem keepC'' {W w1 : World} (hb : Below W.heap.size W w1) {b o : Nat} {v : Value} (h : W.cell? ⟨b, o, none⟩ = some v) : w1.cell? ⟨b, o, none⟩ = some v := keepC' hb h
set_option maxRecDepth 100000 in
set_option maxHeartbeats 3200000 in
theorem get_yes {G : World → Prop} (hK : ∀ w w', G w → Below w.heap.size w w' → G w') (fn : ByteArray) (hv : ValidOK fn G) (sb sc fb c : Nat) (w : World) (hG : G w) (s0 : w.cell? ⟨sb, 0, none⟩ = some (.string fn)) (s1 : w.cell? ⟨sb, 1, none⟩ = some (.int .i64 0)) (s2 : w.cell? ⟨sb, 2, none⟩ = some (.bool false)) (hn : w.cell? ⟨fb, 0, none⟩ = some (.string fn))
    (ng ng' : Bool) (dg dg' : ByteArray) (ex ex' : Int) (hd : ∀ w, Calls Tryz.prog 56 #[dvv ng dg ex] w fun e w' => e = .returned (dvv ng' dg' ex') ∧ Below w.heap.size w w') (hnum : ∀ j (h : j < 8), w.cell? ⟨fb, 1 + j, none⟩ = some ((nC ng dg ex)[j]'h)) :
    Calls Tryz.prog 53 #[pathV sb sc, objV fb c, .agg z8] w fun e w' => e = .returned (.tuple #[nv ng' dg' ex', .bool true]) ∧ Below w.heap.size w w' := by
  obtain ⟨i0, hi, hz0, hz1, hz2⟩ := info_parts infoA
  have HW := hide (GW.start w sb sc fb c)
  have HFo := hide (fun ab ac u hu a b d e => follow_yes hK fn hv (w.heap.size + 1 + 1 + 1 + 1) fb c ab ac u hu a b d e)
  have HG := hide hG
  have HK := hide hK
  have HNm := hide (fun u => jnorm_num ng ng' dg dg' ex ex' hd u)
  have HNu := hide hnum
  unfold nv at HNm
  unfold nv
  clear hd hnum
  clear hK hG hv
  unfold pathV objV z8
  go_enter Tryz.func53, Tryz.ntmps53
  go_wp2
  go_loopw [9, 23] (fun v i wr => ∃ k : Nat, i = .int .i64 (k : Int) ∧ Hid (GW w wr fb c) ∧ ((k = 0 ∧ v = .slice none 0 0) ∨ (k = 1 ∧ ∃ ab ac, v = .slice (some ⟨ab, 0, none⟩) 1 ac ∧ wr.cell? ⟨ab, 0, none⟩ = some (.func (.func 73) #[.agg #[.string fn, .int .i64 0, .bool false]] #[])))) (fun _ i _ => 1 - (intOf i).toNat)
  case atStart => exact ⟨0, rfl, HW, Or.inl ⟨rfl, rfl⟩⟩
  case round =>
    clear HW
    obtain ⟨k, rfl, HW, ⟨rfl, rfl⟩ | ⟨rfl, ab, ac, rfl, hab⟩⟩ := hrel
    · have hbw := (unhide HW).below
      have c0 := keepC'' hbw s0
      have c1 := keepC'' hbw s1
      have c2 := keepC'' hbw s2
      clear hbw
      go_wp2_with (at_builtin; refine wpList_append_own _ rfl _ _ 120 rfl w.heap.size 146 i0 .nilFunc 1 8 Tryz.underlying120 hi hz0 hz1 hz2 rfl (by decide) (.slice none 0 0) 0 [] rfl (World.ownsRow_nil _ _ _ _) ⟨wr.heap.size + 1, 0, none⟩ 1 1 [(.func (.func 73) #[.agg #[.string fn, .int .i64 0, .bool false]] #[] : Value)] rfl rfl ?c1 ?c2 ?c3 ?c4 ?c5 ?_)
      case c1 =>
        intro i u hi
        match i, hi with
        | 0, hi => simp at hi; subst hi; simp [Addr.add]
      case c2 => intro u hu; simp at hu; subst hu; rfl
      case c3 => unfold maxLen; omega
      case c4 => omega
      case c5 => have := (unhide HW).below.size; simp; omega
      intro v' w1 hown hgr hnil
      obtain ⟨ab, ac, hv', hcell⟩ : ∃ ab ac, v' = .slice (some ⟨ab, 0, none⟩) 1 ac ∧ w1.cell? ⟨ab, 0, none⟩ = some (.func (.func 73) #[.agg #[.string fn, .int .i64 0, .bool false]] #[] : Value) := by
        obtain ⟨_, ⟨_, h0⟩ | ⟨g, cap, cur, q1, hb', hg', hc', hm', hs', ht'⟩⟩ := hown
        · cases h0
        · refine ⟨g, cap, q1, ?_⟩
          rw [blk_cell hg']
          have h1 : (cur.toList.take ((0 + 1) * 1))[0]? = ([] ++ [(.func (.func 73) #[.agg #[.string fn, .int .i64 0, .bool false]] #[] : Value)])[0]? := by rw [ht']; rfl
          simpa using h1
      have hbb : Below wr.heap.size wr w1 := (((Below.refl _ _).alloc (Nat.le_refl _) _).alloc (by simp) _).grown hgr (by simp; omega) (fun k hk => by cases hk)
      have HW1 := hide ((unhide HW).keep hbb)
      subst hv'
      clear hown hgr hnil hbb HW c0 c1 c2
      go_wp2
      exact ⟨⟨1, rfl, HW1, Or.inr ⟨rfl, ab, ac, rfl, hcell⟩⟩, by simp [intOf]⟩
    · have hsA := (unhide HW).s
      have HFw := hide (unhide HFo ab ac wr (unhide HK _ _ (unhide HG) (unhide HW).below) (blk_cell hsA 0) (blk_cell hsA 7) (keepC'' (unhide HW).below hn) hab)
      clear HFo hsA hab
      go_wp2_with fail
      refine (unhide HFw).mono ?_
      rintro e w2 ⟨rfl, hb2⟩
      have HW2 := hide ((unhide HW).keep hb2)
      clear HFw hb2 HW
      have hn8 : ∀ j (h : j < 8), w2.cell? ⟨fb, 1 + j, none⟩ = some ((nC ng dg ex)[j]'h) := fun j h => keepC'' (unhide HW2).below (unhide HNu j h)
      have n0 : w2.cell? ⟨fb, 1, none⟩ = some (.int .i64 2) := hn8 0 (by omega)
      have n1 : w2.cell? ⟨fb, 2, none⟩ = some (.bool false) := hn8 1 (by omega)
      have n2 : w2.cell? ⟨fb, 3, none⟩ = some (.bool ng) := hn8 2 (by omega)
      have n3 : w2.cell? ⟨fb, 4, none⟩ = some (.string dg) := hn8 3 (by omega)
      have n4 : w2.cell? ⟨fb, 5, none⟩ = some (.int .i64 ex) := hn8 4 (by omega)
      have n5 : w2.cell? ⟨fb, 6, none⟩ = some (.string ⟨#[]⟩) := hn8 5 (by omega)
      have n6 : w2.cell? ⟨fb, 7, none⟩ = some (.slice none 0 0) := hn8 6 (by omega)
      have n7 : w2.cell? ⟨fb, 8, none⟩ = some (.slice none 0 0) := hn8 7 (by omega)
      clear hn8 HNu
      go_wp2_with fail
      refine (unhide HNm _).mono ?_
      rintro e w3 ⟨rfl, hb3⟩
      have HW3 := hide ((unhide HW2).keep hb3)
      clear HNm hb3 HW2 n0 n1 n2 n3 n4 n5 n6 n7
      have hr := (unhide HW3).r
      have q0 : w3.cell? ⟨w.heap.size + 1 + 1 + 1, 0, none⟩ = some (.int .i64 0) := blk_cell hr 0
      have f0 : w3.frozen? ⟨w.heap.size + 1 + 1 + 1, 0, none⟩ = false := blk_free hr 0
      have q1 : w3.cell? ⟨w.heap.size + 1 + 1 + 1, 1, none⟩ = some (.bool false) := blk_cell hr 1
      have f1 : w3.frozen? ⟨w.heap.size + 1 + 1 + 1, 1, none⟩ = false := blk_free hr 1
      have q2 : w3.cell? ⟨w.heap.size + 1 + 1 + 1, 2, none⟩ = some (.bool false) := blk_cell hr 2
      have f2 : w3.frozen? ⟨w.heap.size + 1 + 1 + 1, 2, none⟩ = false := blk_free hr 2
      have q3 : w3.cell? ⟨w.heap.size + 1 + 1 + 1, 3, none⟩ = some (.string ⟨#[]⟩) := blk_cell hr 3
      have f3 : w3.frozen? ⟨w.heap.size + 1 + 1 + 1, 3, none⟩ = false := blk_free hr 3
      have q4 : w3.cell? ⟨w.heap.size + 1 + 1 + 1, 4, none⟩ = some (.int .i64 0) := blk_cell hr 4
      have f4 : w3.frozen? ⟨w.heap.size + 1 + 1 + 1, 4, none⟩ = false := blk_free hr 4
      have q5 : w3.cell? ⟨w.heap.size + 1 + 1 + 1, 5, none⟩ = some (.string ⟨#[]⟩) := blk_cell hr 5
      have f5 : w3.frozen? ⟨w.heap.size + 1 + 1 + 1, 5, none⟩ = false := blk_free hr 5
      have q6 : w3.cell? ⟨w.heap.size + 1 + 1 + 1, 6, none⟩ = some (.slice none 0 0) := blk_cell hr 6
      have f6 : w3.frozen? ⟨w.heap.size + 1 + 1 + 1, 6, none⟩ = false := blk_free hr 6
      have q7 : w3.cell? ⟨w.heap.size + 1 + 1 + 1, 7, none⟩ = some (.slice none 0 0) := blk_cell hr 7
      have f7 : w3.frozen? ⟨w.heap.size + 1 + 1 + 1, 7, none⟩ = false := blk_free hr 7
      have HV := hide (V8.put hr (.int .i64 2) (.bool false) (.bool ng') (.string dg') (.int .i64 ex') (.string ⟨#[]⟩) (.slice none 0 0) (.slice none 0 0))
      have HU := hide (put8_upd w3 (w.heap.size + 1 + 1 + 1) (.int .i64 2) (.bool false) (.bool ng') (.string dg') (.int .i64 ex') (.string ⟨#[]⟩) (.slice none 0 0) (.slice none 0 0))
      clear hr
      go_wp2
      refine bodyPost_ret (ret_get (m := w.heap.size + 1 + 1 + 1) _ _ _ _ _ _ _ _ _ _ (unhide HV) _ rfl rfl) rfl ?_
      exact ⟨rfl, (unhide HW3).below.trans ((unhide HU).below (by omega))⟩
set_option maxRecDepth 100000 in
set_option maxHeartbeats 3200000 in
theorem get_no {G : World → Prop} (hK : ∀ w w', G w → Below w.heap.size w w' → G w') (fn : ByteArray) (hv : ValidOK fn G) (nm : ByteArray) (hvn : ValidOK nm G) (hne : (fn.toList == nm.toList) = false) (sb sc fb c : Nat) (w : World) (hG : G w) (s0 : w.cell? ⟨sb, 0, none⟩ = some (.string nm)) (s1 : w.cell? ⟨sb, 1, none⟩ = some (.int .i64 0)) (s2 : w.cell? ⟨sb, 2, none⟩ = some (.bool false)) (hn : w.cell? ⟨fb, 0, none⟩ = some (.string fn))
    :
    Calls Tryz.prog 53 #[pathV sb sc, objV fb c, .agg z8] w fun e w' => e = .returned (.tuple #[.agg z8, .bool false]) ∧ Below w.heap.size w w' := by
  obtain ⟨i0, hi, hz0, hz1, hz2⟩ := info_parts infoA
  have HW := hide (GW.start w sb sc fb c)
  have HFo := hide (fun ab ac u hu a b d e => follow_no hK fn hv nm hvn hne (w.heap.size + 1 + 1 + 1 + 1) fb c ab ac u hu a b d e)
  have HG := hide hG
  have HK := hide hK
  clear hK hG hv hvn hne
  unfold pathV objV z8
  go_enter Tryz.func53, Tryz.ntmps53
  go_wp2
  go_loopw [9, 23] (fun v i wr => ∃ k : Nat, i = .int .i64 (k : Int) ∧ Hid (GW w wr fb c) ∧ ((k = 0 ∧ v = .slice none 0 0) ∨ (k = 1 ∧ ∃ ab ac, v = .slice (some ⟨ab, 0, none⟩) 1 ac ∧ wr.cell? ⟨ab, 0, none⟩ = some (.func (.func 73) #[.agg #[.string nm, .int .i64 0, .bool false]] #[])))) (fun _ i _ => 1 - (intOf i).toNat)
  case atStart => exact ⟨0, rfl, HW, Or.inl ⟨rfl, rfl⟩⟩
  case round =>
    clear HW
    obtain ⟨k, rfl, HW, ⟨rfl, rfl⟩ | ⟨rfl, ab, ac, rfl, hab⟩⟩ := hrel
    · have hbw := (unhide HW).below
      have c0 := keepC'' hbw s0
      have c1 := keepC'' hbw s1
      have c2 := keepC'' hbw s2
      clear hbw
      go_wp2_with (at_builtin; refine wpList_append_own _ rfl _ _ 120 rfl w.heap.size 146 i0 .nilFunc 1 8 Tryz.underlying120 hi hz0 hz1 hz2 rfl (by decide) (.slice none 0 0) 0 [] rfl (World.ownsRow_nil _ _ _ _) ⟨wr.heap.size + 1, 0, none⟩ 1 1 [(.func (.func 73) #[.agg #[.string nm, .int .i64 0, .bool false]] #[] : Value)] rfl rfl ?c1 ?c2 ?c3 ?c4 ?c5 ?_)
      case c1 =>
        intro i u hi
        match i, hi with
        | 0, hi => simp at hi; subst hi; simp [Addr.add]
      case c2 => intro u hu; simp at hu; subst hu; rfl
      case c3 => unfold maxLen; omega
      case c4 => omega
      case c5 => have := (unhide HW).below.size; simp; omega
      intro v' w1 hown hgr hnil
      obtain ⟨ab, ac, hv', hcell⟩ : ∃ ab ac, v' = .slice (some ⟨ab, 0, none⟩) 1 ac ∧ w1.cell? ⟨ab, 0, none⟩ = some (.func (.func 73) #[.agg #[.string nm, .int .i64 0, .bool false]] #[] : Value) := by
        obtain ⟨_, ⟨_, h0⟩ | ⟨g, cap, cur, q1, hb', hg', hc', hm', hs', ht'⟩⟩ := hown
        · cases h0
        · refine ⟨g, cap, q1, ?_⟩
          rw [blk_cell hg']
          have h1 : (cur.toList.take ((0 + 1) * 1))[0]? = ([] ++ [(.func (.func 73) #[.agg #[.string nm, .int .i64 0, .bool false]] #[] : Value)])[0]? := by rw [ht']; rfl
          simpa using h1
      have hbb : Below wr.heap.size wr w1 := (((Below.refl _ _).alloc (Nat.le_refl _) _).alloc (by simp) _).grown hgr (by simp; omega) (fun k hk => by cases hk)
      have HW1 := hide ((unhide HW).keep hbb)
      subst hv'
      clear hown hgr hnil hbb HW c0 c1 c2
      go_wp2
      exact ⟨⟨1, rfl, HW1, Or.inr ⟨rfl, ab, ac, rfl, hcell⟩⟩, by simp [intOf]⟩
    · have hsA := (unhide HW).s
      have HFw := hide (unhide HFo ab ac wr (unhide HK _ _ (unhide HG) (unhide HW).below) (blk_cell hsA 0) (blk_cell hsA 7) (keepC'' (unhide HW).below hn) hab)
      clear HFo hsA hab
      go_wp2_with fail
      refine (unhide HFw).mono ?_
      rintro e w2 ⟨rfl, hb2⟩
      have HW2 := hide ((unhide HW).keep hb2)
      clear HFw hb2 HW
      have hr := (unhide HW2).r
      have q0 : w2.cell? ⟨w.heap.size + 1 + 1 + 1, 0, none⟩ = some (.int .i64 0) := blk_cell hr 0
      have f0 : w2.frozen? ⟨w.heap.size + 1 + 1 + 1, 0, none⟩ = false := blk_free hr 0
      have q1 : w2.cell? ⟨w.heap.size + 1 + 1 + 1, 1, none⟩ = some (.bool false) := blk_cell hr 1
      have f1 : w2.frozen? ⟨w.heap.size + 1 + 1 + 1, 1, none⟩ = false := blk_free hr 1
      have q2 : w2.cell? ⟨w.heap.size + 1 + 1 + 1, 2, none⟩ = some (.bool false) := blk_cell hr 2
      have f2 : w2.frozen? ⟨w.heap.size + 1 + 1 + 1, 2, none⟩ = false := blk_free hr 2
      have q3 : w2.cell? ⟨w.heap.size + 1 + 1 + 1, 3, none⟩ = some (.string ⟨#[]⟩) := blk_cell hr 3
      have f3 : w2.frozen? ⟨w.heap.size + 1 + 1 + 1, 3, none⟩ = false := blk_free hr 3
      have q4 : w2.cell? ⟨w.heap.size + 1 + 1 + 1, 4, none⟩ = some (.int .i64 0) := blk_cell hr 4
      have f4 : w2.frozen? ⟨w.heap.size + 1 + 1 + 1, 4, none⟩ = false := blk_free hr 4
      have q5 : w2.cell? ⟨w.heap.size + 1 + 1 + 1, 5, none⟩ = some (.string ⟨#[]⟩) := blk_cell hr 5
      have f5 : w2.frozen? ⟨w.heap.size + 1 + 1 + 1, 5, none⟩ = false := blk_free hr 5
      have q6 : w2.cell? ⟨w.heap.size + 1 + 1 + 1, 6, none⟩ = some (.slice none 0 0) := blk_cell hr 6
      have f6 : w2.frozen? ⟨w.heap.size + 1 + 1 + 1, 6, none⟩ = false := blk_free hr 6
      have q7 : w2.cell? ⟨w.heap.size + 1 + 1 + 1, 7, none⟩ = some (.slice none 0 0) := blk_cell hr 7
      have f7 : w2.frozen? ⟨w.heap.size + 1 + 1 + 1, 7, none⟩ = false := blk_free hr 7
      have HV := hide (V8.put hr (.int .i64 0) (.bool false) (.bool false) (.string ⟨#[]⟩) (.int .i64 0) (.string ⟨#[]⟩) (.slice none 0 0) (.slice none 0 0))
      have HU := hide (put8_upd w2 (w.heap.size + 1 + 1 + 1) (.int .i64 0) (.bool false) (.bool false) (.string ⟨#[]⟩) (.int .i64 0) (.string ⟨#[]⟩) (.slice none 0 0) (.slice none 0 0))
      clear hr
      go_wp2
      refine bodyPost_ret (ret_get (m := w.heap.size + 1 + 1 + 1) _ _ _ _ _ _ _ _ _ _ (unhide HV) _ rfl rfl) rfl ?_
      exact ⟨rfl, (unhide HW2).below.trans ((unhide HU).below (by omega))⟩
end Go.Proofs.YthpnclhfooileaaGreatDoor.ru
