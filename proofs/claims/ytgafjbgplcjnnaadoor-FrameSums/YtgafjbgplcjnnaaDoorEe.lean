/- The landed package frame: Scan. -/
import Derived.Test.YtgafjbgplcjnnaaDoorEd
import Derived.Laws.CopyOwn
import Derived.Laws.OwnMore
import Derived.Deep.OwnRows
namespace Go.Proofs.YtgafjbgplcjnnaaDoor.fr
open Go.RowKit

theorem OBB.mono {w : World} {B B' : Nat} {v : Value} {ls : List (List UInt8)} (h : OBB w B v ls) (hB : B' ≤ B) : OBB w B' v ls := by
  obtain ⟨vs, h1, h2, h3, h4, h5⟩ := h
  refine ⟨vs, h1, ?_, fun j x l hx hl => (h3 j x l hx hl).mono hB, h4, h5⟩
  obtain ⟨hl, ⟨rfl, h0⟩ | ⟨g, cap, cur, rfl, hb', r⟩⟩ := h2
  · exact ⟨hl, Or.inl ⟨rfl, h0⟩⟩
  · exact ⟨hl, Or.inr ⟨g, cap, cur, rfl, by omega, r⟩⟩
theorem infoU1 : (Tryd.prog.info? 5).map (·.size) = some 1 := by kernel_rfl
theorem splice_map {α β : Type} (f : α → β) (L : List α) (o : Nat) (m : List α) : splice (L.map f) o (m.map f) = (splice L o m).map f := by
  simp [splice]
theorem splice_all (p : Nat) (m : List UInt8) (h : m.length = p) : splice (List.replicate p (0 : UInt8)) 0 m = m := by
  have hd : List.drop p (List.replicate p (0 : UInt8)) = [] := List.drop_eq_nil_of_le (by simp)
  unfold splice
  rw [h, Nat.zero_add, List.take_zero, List.nil_append, hd, List.append_nil]
/-- Zeros as they are made. -/
theorem pb_made (w : World) (n : Nat) : PB (w.alloc (.cells (madeCells #[Value.int .u8 0] n) 5)) w.heap.size (List.replicate n 0) := by
  have := heap_alloc_new w (.cells (madeCells #[Value.int .u8 0] n) 5)
  unfold PB
  rw [this, List.map_replicate]
  have e : madeCells #[Value.int .u8 0] n = (List.replicate n (vb 0)).toArray := by
    apply Array.toList_inj.mp
    rw [toList_madeCells_one]
    rfl
  rw [e]
theorem ob_pb {w : World} {g B n : Nat} {l : List UInt8} (h : PB w g l) (hl : l.length = n) (hm : n ≤ maxLen) (hB : B ≤ g) : OB w B (.slice (some ⟨g, 0, none⟩) n n) l := by
  subst hl
  refine ⟨by simp, Or.inr ⟨g, l.length, (l.map vb).toArray, rfl, hB, h, Nat.le_refl _, hm, by simp, ?_⟩⟩
  rw [List.take_of_length_le (by simp)]
/-- copy of bytes into a block that they fill. -/
theorem wpList_copy_bytes {w : World} {ops : Array Oper} {rest : List Oper} {o : Oper} {a : Act} {Q : Exit → Act → World → Prop} (hgd : o.guard = none) (d s : Operand)
    (ho : o.op = .call { callee := .builtin .copy, args := #[d, s], argTypes := #[22, 22] }) (dp : Option Addr) (dLen dCap : Nat) (vs : Value) (m : List UInt8) (hd : a.eval d = .slice dp dLen dCap) (hs : a.eval s = vs) (hb : BS w vs m)
    (g off : Nat) (L : List UInt8) (hp : PB w g L) (hpos : 0 < (m.take dLen).length → dp = some ⟨g, off, none⟩) (hfit : off + (m.take dLen).length ≤ L.length) (B : Nat) (w0 : World) (hB : Below B w0 w) (hBg : B ≤ g)
    (h : ∀ w' r, PB w' g (splice L off (m.take dLen)) → Below B w0 w' → wpList Tryd.prog ops Q rest (a.put o.dst r) w') : wpList Tryd.prog ops Q (o :: rest) a w := by
  obtain ⟨oa, c, rfl, h1, h2, h3, h4⟩ := hb
  refine wpList_copy_splice (P := Tryd.prog) hgd d s 22 22 ho 5 Tryd.underlying22 infoU1 dp oa dLen dCap m.length c hd hs g off (L.map vb) 5 hp ((m.take dLen).map vb) (by rw [List.length_map, List.length_take]; exact Nat.min_comm _ _) (fun q => ?_) (by simpa using hfit)
    (fun v hv => by obtain ⟨x, _, rfl⟩ := List.mem_map.mp hv; rfl) B w0 hB hBg (fun w' hg hb' => h w' _ ?_ hb')
  · rw [List.length_map] at q
    refine ⟨hpos q, ?_⟩
    cases oa with
    | none => rw [(h3 rfl).1] at q; simp at q
    | some ad =>
      refine ⟨ad, rfl, fun j v hv => ?_⟩
      rw [List.getElem?_map, List.getElem?_take] at hv
      split at hv
      · obtain ⟨x, hx, rfl⟩ := Option.map_eq_some_iff.mp hv
        exact h4 ad rfl j x hx
      · cases hv
  · have := unhide hg
    rw [splice_map] at this
    exact this

set_option maxRecDepth 100000 in
set_option maxHeartbeats 3200000 in
theorem scan_any (l : List UInt8) (v : Value) (w : World) (h : BS w v l) (hl : l.length ≤ 1000000000) :
    Calls Tryd.prog 18 #[v] w fun e w' => ∃ r, e = .returned (.tuple #[r, .int .i64 ((scan l).2 : Int)]) ∧ OBB w' w.heap.size r (scan l).1 ∧ Below w.heap.size w w' := by
  have HB := hide h
  obtain ⟨oa, c, rfl, h1, h2, h3, h4⟩ := h
  clear h3 h4
  obtain ⟨rs, hrs⟩ : ∃ r, (scan l).1 = r := ⟨_, rfl⟩
  obtain ⟨ra, hra⟩ : ∃ r, (scan l).2 = r := ⟨_, rfl⟩
  rw [hrs, hra]
  have HS1 := hide hrs
  have HS2 := hide hra
  clear hrs hra
  obtain ⟨L, Z, hz, c1, mt, ms, ma, mm⟩ := made
  have C1 := hide (c1 w)
  have MT := hide mt
  have MS := hide ms
  have MA := hide ma
  have MM := hide mm
  clear c1 mt ms ma mm
  go_enter Tryd.func18, Tryd.ntmps18
  go_wp2_with fail
  refine (unhide C1).mono ?_
  rintro e w1 ⟨rfl, b1⟩
  have B1 := hide b1
  clear b1 C1
  go_wp2_with (refine wpList_store_mid rfl 50 _ _ rfl w1.heap.size 0 L.toArray rfl rfl (unhide MT w1) (unhide MS) (unhide MA) ?_)
  obtain ⟨w2, e2, t2, b2, z2⟩ := unhide MM w1
  rw [e2]
  have B2 := hide ((unhide B1).trans (b2.mono (unhide B1).size))
  have T2 := hide t2
  have Z2 := hide z2
  have HB2 := hide ((unhide HB).keep (unhide B2))
  clear MT MS MA MM hz e2 b2 t2 z2 HB B1
  generalize w1.heap.size = tb at *
  go_loopw [5, 6] (fun ov av wr => ∃ (k : Nat) (ds : List (List UInt8)), k ≤ l.length ∧ av = .int .i64 (k : Int) ∧ Hid (OBB wr w2.heap.size ov ds) ∧ Hid (Below w2.heap.size w2 wr) ∧ ds.length * 12 ≤ k ∧
      Hid (ds ++ (scan (l.drop k)).1 = rs ∧ k + (scan (l.drop k)).2 = ra)) (fun _ av _ => l.length - (intOf av).toNat)
  case atStart => exact ⟨0, [], by omega, rfl, OBB.nil _ _, Below.refl _ _, by simp, by rw [List.drop_zero, unhide HS1, unhide HS2]; exact ⟨rfl, by simp⟩⟩
  case round =>
    obtain ⟨k, ds, hk, rfl, hO, hBl, hd, hR⟩ := hrel
    obtain ⟨v1, s1, b1⟩ := (unhide HB2).l k hk (k : Int) rfl
    have W1 := hide (whole_any tb _ v1 wr ((unhide T2).keep (unhide hBl) (by rw [unhide Z2]; omega)) (b1.keep (unhide hBl)))
    rw [scan_step] at hR
    have hwl := whole_le (l.drop k)
    have hwg := whole_ge (l.drop k)
    rw [List.length_drop] at hwl
    have hk0 : (0 : Int) ≤ (k : Int) := by omega
    have hk1 : (k : Int) ≤ (l.length : Int) := by omega
    clear b1 HS1 HS2
    generalize whole (l.drop k) = n at *
    go_wp2_with fail
    refine (unhide W1).mono ?_
    rintro e u1 ⟨m, rfl, hm, m1, hw1⟩
    have k1 : Hid (Below wr.heap.size wr u1) := by rw [hw1]; exact below_drewN _ _ _
    have O1 := hide ((unhide hO).keep (unhide k1) (Nat.le_refl _))
    have HB1 := hide ((unhide hBl).trans ((unhide k1).mono (unhide hBl).size))
    clear hO hBl k1 hw1 W1
    by_cases hn : n = 0
    · subst hn
      rw [if_pos rfl] at hR
      obtain ⟨r1, r2⟩ := unhide hR
      have R1 := hide r1
      have R2 := hide r2
      clear r1 r2 hR hm
      go_wp2
      refine bodyPost_ret (results_tmp2 rfl _ _ _) rfl ?_
      refine ⟨_, ?_, by rw [← unhide R1, List.append_nil]; exact (unhide O1).mono (unhide B2).size, (unhide B2).trans ((unhide HB1).mono (unhide B2).size)⟩
      rw [← unhide R2]
      rfl
    · obtain rfl := hm hn
      have hn12 := hwg hn
      rw [if_neg hn] at hR
      have hdn : decide (n ≠ 0) = true := decide_eq_true hn
      obtain ⟨p, rfl⟩ : ∃ p, n = p + 12 := ⟨n - 12, by omega⟩
      have hp12 : ((p + 12 : Nat) : Int) - 12 = (p : Int) := by omega
      rw [hp12, hdn]
      obtain ⟨v2, s2, b2⟩ := (unhide HB2).l (k + 8) (by omega) ((k : Int) + 8) (by omega)
      have hmk := run_make_row' (P := Tryd.prog) 22 5 (.int .u8 0) 1 Tryd.underlying22 infoU rfl .i64 .i64 p (by omega) (by omega) u1
      have K3 := hide ((Below.refl u1.heap.size u1).alloc (Nat.le_refl _) (.cells (madeCells #[Value.int .u8 0] p) 5))
      have P3 := hide (pb_made u1 p)
      have S2 := hide ((b2.keep (unhide HB1)).keep (unhide K3))
      simp only [List.drop_drop, Nat.add_sub_cancel] at hR
      have hpl : (List.take p (List.drop (k + 8) l)).length = p := by rw [List.length_take, List.length_drop]; omega
      clear b2 hwg hn hdn hm
      go_upto_region 8 with fail
      go_wp2_with (refine wpList_copy_bytes rfl _ _ rfl _ _ _ _ _ rfl rfl (unhide S2) u1.heap.size 0 _ (unhide P3) (fun _ => rfl) ?a1 u1.heap.size u1 (unhide K3) (Nat.le_refl _) ?_)
      case a1 => rw [hpl, List.length_replicate]; omega
      intro u3w r3 p3 b3
      have hsp := splice_all p (List.take p (List.drop (k + 8) l)) hpl
      rw [hsp] at p3
      have O3 := hide (ob_pb (B := w2.heap.size) p3 hpl (by unfold maxLen; omega) (unhide HB1).size)
      have K4 := hide b3
      have F3 : Hid (∀ q, (Value.slice (some ⟨u1.heap.size, 0, none⟩) p p).ownBlock = some q → u1.heap.size ≤ q) := fun q hq => by cases hq; exact Nat.le_refl _
      clear hmk K3 P3 S2 s2 s1 p3 b3 hsp
      generalize List.take p (List.drop (k + 8) l) = pl at *
      go_wp2_with (at_builtin; refine wpList_append_bl rfl _ _ rfl u1 u3w w2.heap.size u5 _ _ _ rfl rfl rfl (unhide O1) (unhide K4) (unhide O3) (unhide F3) ?a1 (unhide HB1).size ?_)
      case a1 => omega
      intro v4 w4 o4 g4
      have k4 := hide (((unhide HB1).trans ((unhide K4).mono (unhide HB1).size)).alloc (Nat.le_trans (unhide HB1).size (unhide K4).size) (.cells #[.slice (some ⟨u1.heap.size, 0, none⟩) p p] 22))
      have hr : ∀ q, u5.ownBlock = some q → w2.heap.size ≤ q := by
        obtain ⟨vs, _, q2, _⟩ := unhide O1
        exact fun q hq => (row_lt q2 q hq).1
      have HB4 := hide ((unhide k4).grown g4 (unhide k4).size hr)
      have O4 := hide o4
      clear o4 g4 k4 K4 O3 F3 O1 HB1
      go_wp2
      refine ⟨⟨k + (p + 12), ds ++ [pl], by omega, by go_num, O4, HB4, by simp; omega, ?_⟩, by simp [intOf]; omega⟩
      show _ ∧ _
      have hR' := unhide hR
      exact ⟨by rw [← hR'.1]; simp, by rw [← hR'.2]; omega⟩

end Go.Proofs.YtgafjbgplcjnnaaDoor.fr
