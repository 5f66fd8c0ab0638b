/- The landed disk: New, Synced, Up, Arm, spend, Sync, Append. -/
import Derived.Test.YtbcclolhfogpnaaDoorDk2
namespace Go.Proofs.YtbcclolhfogpnaaDoor.dk
open Go.RowKit mm

/-- The four cells of the landed disk. -/
def L4 (w : World) (g : Nat) (v : Value) (n m : Int) (b : Bool) : Prop := ∃ t, w.heap[g]? = some (.cells #[v, .int .i64 n, .int .i64 m, .bool b] t (0, 0))
section
variable {w : World} {g : Nat} {v : Value} {n : Int} {b : Bool} {m : Int}
theorem L4.c0 (h : L4 w g v n m b) : w.cell? ⟨g, 0, none⟩ = some v := by obtain ⟨t, h⟩ := h; rw [blk_cell h]; rfl
theorem L4.c1 (h : L4 w g v n m b) : w.cell? ⟨g, 1, none⟩ = some (.int .i64 n) := by obtain ⟨t, h⟩ := h; rw [blk_cell h]; rfl
theorem L4.c2 (h : L4 w g v n m b) : w.cell? ⟨g, 2, none⟩ = some (.int .i64 m) := by obtain ⟨t, h⟩ := h; rw [blk_cell h]; rfl
theorem L4.c3 (h : L4 w g v n m b) : w.cell? ⟨g, 3, none⟩ = some (.bool b) := by obtain ⟨t, h⟩ := h; rw [blk_cell h]; rfl
theorem L4.f (h : L4 w g v n m b) (o : Nat) : w.frozen? ⟨g, o, none⟩ = false := by obtain ⟨t, h⟩ := h; exact blk_free h o
theorem L4.s0 (h : L4 w g v n m b) (x : Value) : L4 (w.setCell ⟨g, 0, none⟩ x) g x n m b := by obtain ⟨t, h⟩ := h; exact ⟨t, blk_set h 0 _⟩
theorem L4.s1 (h : L4 w g v n m b) (x : Int) : L4 (w.setCell ⟨g, 1, none⟩ (.int .i64 x)) g v x m b := by obtain ⟨t, h⟩ := h; exact ⟨t, blk_set h 1 _⟩
theorem L4.s2 (h : L4 w g v n m b) (x : Int) : L4 (w.setCell ⟨g, 2, none⟩ (.int .i64 x)) g v n x b := by obtain ⟨t, h⟩ := h; exact ⟨t, blk_set h 2 _⟩
theorem L4.s3 (h : L4 w g v n m b) (x : Bool) : L4 (w.setCell ⟨g, 3, none⟩ (.bool x)) g v n m x := by obtain ⟨t, h⟩ := h; exact ⟨t, blk_set h 3 _⟩
theorem L4.keep {w' : World} (h : L4 w g v n m b) (hk : w'.heap[g]? = w.heap[g]?) : L4 w' g v n m b := by obtain ⟨t, h⟩ := h; exact ⟨t, hk.trans h⟩
theorem L4.lt (h : L4 w g v n m b) : g < w.heap.size := by obtain ⟨t, h⟩ := h; exact blk_lt h
end
/-- The landed disk at p, in the blocks F. -/
def LD (w : World) (p : Addr) (F : Bl) (s : St) : Prop :=
  ∃ g v, p = ⟨g, 0, none⟩ ∧ L4 w g v (s.syn : Int) (s.arm : Int) s.off ∧ FR w v s.file ∧ v.ownBlock ≠ some g ∧ (∀ k, F k ↔ (k = g ∨ v.ownBlock = some k)) ∧ Wf s ∧ (s.arm : Int) ≤ 9223372036854775807 ∧ (∀ k, F k → 2 ≤ k)
theorem LD.lt {w : World} {p : Addr} {F : Bl} {s : St} (h : LD w p F s) : ∀ k, F k → k < w.heap.size := fun k hk => by
  obtain ⟨g, v, rfl, h4, hy, hn, hF, _⟩ := h
  rcases (hF k).mp hk with rfl | q
  · exact h4.lt
  · exact hy.lt k q
theorem LD.keep {w w' : World} {p : Addr} {F : Bl} {s : St} (h : LD w p F s) (hk : ∀ k, F k → w'.heap[k]? = w.heap[k]?) : LD w' p F s := by
  obtain ⟨g, v, rfl, h4, hy, hn, hF, r⟩ := h
  exact ⟨g, v, rfl, h4.keep (hk g ((hF g).mpr (Or.inl rfl))), hy.keep (fun k q => hk k ((hF k).mpr (Or.inr q))), hn, hF, r⟩

theorem new_any (w : World) (h0 : 2 ≤ w.heap.size) : Calls Tryd.prog 8 #[] w fun e w' => ∃ p F, e = .returned (.pointer (some p)) ∧ LD w' p F st0 ∧ (∀ k, F k → w.heap.size ≤ k) ∧ Below w.heap.size w w' := by
  go_enter Tryd.func8, Tryd.ntmps8
  go_wp2
  go_ret
  refine ⟨⟨w.heap.size, 0, none⟩, fun k => k = w.heap.size, rfl, ⟨w.heap.size, .slice none 0 0, rfl, ⟨_, heap_alloc_new w _⟩, Or.inl ⟨rfl, rfl⟩, (fun q => by cases q), fun k => ⟨Or.inl, fun q => q.elim id (fun q => by cases q)⟩, wf0, by decide, fun k hk => by simp only at hk; omega⟩, fun k hk => by simp only at hk; omega, (Below.refl _ _).alloc (Nat.le_refl _) _⟩
theorem synced_any (w : World) (p : Addr) (F : Bl) (s : St) (h : LD w p F s) : Calls Tryd.prog 13 #[.pointer (some p)] w fun e w' => e = .returned (.int .i64 (s.syn : Int)) ∧ Below w.heap.size w w' := by
  obtain ⟨g, v, rfl, h4, _⟩ := h
  have c1 := h4.c1
  clear h4
  go_enter Tryd.func13, Tryd.ntmps13
  go_wp2
  go_ret
  exact ⟨rfl, Below.refl _ _⟩
theorem up_any (w : World) (p : Addr) (F : Bl) (s : St) (h : LD w p F s) : Calls Tryd.prog 18 #[.pointer (some p)] w fun e w' => e = .returned (.bool (!s.off)) ∧ Below w.heap.size w w' := by
  obtain ⟨g, v, rfl, h4, _⟩ := h
  have c3 := h4.c3
  clear h4
  go_enter Tryd.func18, Tryd.ntmps18
  go_wp2
  go_ret
  exact ⟨rfl, Below.refl _ _⟩
theorem arm_any (w : World) (p : Addr) (F : Bl) (s : St) (n : Int) (h : LD w p F s) (n0 : -9223372036854775808 ≤ n) (n1 : n ≤ 9223372036854775807) :
    Calls Tryd.prog 17 #[.pointer (some p), .int .i64 n] w fun e w' => ∃ F', e = .returned (.tuple #[]) ∧ LD w' p F' (sArm s n) ∧ Mv F F' w w' := by
  obtain ⟨g, v, rfl, h4, hy, hn, hF, hw, ha, hg2⟩ := h
  have c2 := h4.c2
  have hf := h4.f
  have FIN := hide (show ∀ x : Int, x = (n.toNat : Int) → ∃ F', LD (w.setCell ⟨g, 2, none⟩ (.int .i64 x)) ⟨g, 0, none⟩ F' (sArm s n) ∧ Mv F F' w (w.setCell ⟨g, 2, none⟩ (.int .i64 x)) from fun x hx => by
    subst hx
    have U := Upd.setCell g 2 w (.int .i64 (n.toNat : Int))
    exact ⟨F, ⟨g, v, rfl, h4.s2 _, hy.upd U hn, hn, hF, hw, by show (n.toNat : Int) ≤ _; omega, hg2⟩, mvU U ((hF g).mpr (Or.inl rfl))⟩)
  clear h4 hy hn hF hw ha hg2
  by_cases hq : 0 ≤ n
  · have e : max n 0 = n := by omega
    go_enter Tryd.func17, Tryd.ntmps17
    go_wp2
    first
    | refine bodyPost_end (results_none rfl _ _ _) rfl ?_
    | go_ret
    obtain ⟨F', h1, h2⟩ := unhide FIN n (by omega)
    first
    | exact ⟨F', rfl, h1, h2⟩
    | exact ⟨rfl, F', h1, h2⟩
    | (rw [e]; exact ⟨F', rfl, h1, h2⟩)
  · have e : max n 0 = 0 := by omega
    go_enter Tryd.func17, Tryd.ntmps17
    go_wp2
    first
    | refine bodyPost_end (results_none rfl _ _ _) rfl ?_
    | go_ret
    obtain ⟨F', h1, h2⟩ := unhide FIN 0 (by omega)
    first
    | exact ⟨F', rfl, h1, h2⟩
    | exact ⟨rfl, F', h1, h2⟩
    | (rw [e]; exact ⟨F', rfl, h1, h2⟩)

/-- Does the power go? -/
def goN (m : Nat) : Nat := if m = 1 then 2 else 0
theorem spend_any (a b : Addr) (w : World) (g : Nat) (v : Value) (n : Int) (m : Nat) (hd : w.cell? ⟨0, 0, none⟩ = some (.iface 66 (.pointer (some b)))) (hg2 : 2 ≤ g) (h : L4 w g v n (m : Int) false) (h1 : (m : Int) ≤ 9223372036854775807) :
    Calls Tryd.prog 30 #[.pointer (some ⟨g, 0, none⟩)] w fun e w' => e = .returned (er a b (goN m)) ∧ L4 w' g v n ((m - 1 : Nat) : Int) (m == 1) ∧ Upd g w w' := by
  have c2 := h.c2
  have c3 := h.c3
  have hf := h.f
  have hlt := h.lt
  have H := hide h
  rcases (by omega : m = 0 ∨ m = 1 ∨ 2 ≤ m) with rfl | rfl | h2
  · have e0 : er a b (goN 0) = .nilIface := rfl
    rw [e0]
    clear h hg2
    go_enter Tryd.func30, Tryd.ntmps30
    go_wp2
    go_ret
    exact ⟨rfl, unhide H, Upd.refl _ _⟩
  · have e0 : er a b (goN 1) = .iface 66 (.pointer (some b)) := rfl
    rw [e0]
    have hne : (0 : Nat) ≠ g := by omega
    have hne2 : g ≠ (0 : Nat) := fun q => hne q.symm
    clear h hg2
    go_enter Tryd.func30, Tryd.ntmps30
    go_wp2
    go_ret
    exact ⟨rfl, ((unhide H).s2 _).s3 _, (Upd.setCell _ _ _ _).trans (Upd.setCell _ _ _ _)⟩
  · have e0 : er a b (goN m) = .nilIface := by unfold goN; rw [if_neg (by omega)]; rfl
    have e1 : (m == 1) = false := by simp; omega
    have hw : wrap64 ((m : Int) - 1) = (m : Int) - 1 := IntWalk.wrap64_in _ ⟨by omega, by omega⟩
    have hq : ((m : Int) == 0) = false := by simp; omega
    have hg : (1 : Int) < (m : Int) := by omega
    have e2 : ((m - 1 : Nat) : Int) = (m : Int) - 1 := by omega
    rw [e0, e1, e2]
    clear h hg2 h1 h2 e0 e1 e2
    go_enter Tryd.func30, Tryd.ntmps30
    go_wp2
    go_ret
    exact ⟨rfl, (unhide H).s2 _, Upd.setCell _ _ _ _⟩

theorem go_app (m : Nat) (file l : List UInt8) (syn : Nat) : sApp ⟨file, syn, false, m⟩ l = (⟨file ++ l, syn, (m == 1), m - 1⟩, goN m) := by
  unfold sApp goN
  by_cases h : m = 1
  · subst h; rfl
  · simp [h]
theorem LD.fin {w w' : World} {g : Nat} {v v0 : Value} {F : Bl} {s : St} (hF : ∀ k, F k ↔ (k = g ∨ v0.ownBlock = some k)) (h4 : L4 w' g v (s.syn : Int) (s.arm : Int) s.off) (hr : FR w' v s.file) (hn : v.ownBlock ≠ some g) (hw : Wf s) (ha : (s.arm : Int) ≤ 9223372036854775807) (hg2 : ∀ k, F k → 2 ≤ k) (hsz : 2 ≤ w.heap.size)
    (os : w'.os = w.os) (tp : w'.tape = w.tape) (out : w'.output = w.output) (sz : w.heap.size ≤ w'.heap.size) (hb : ∀ k, k < w.heap.size → k ≠ g → v0.ownBlock ≠ some k → w'.heap[k]? = w.heap[k]?) (hv : ∀ k, v.ownBlock = some k → v0.ownBlock = some k ∨ w.heap.size ≤ k) :
    ∃ F', LD w' ⟨g, 0, none⟩ F' s ∧ Mv F F' w w' := by
  have hm : Mv F (fun k => k = g ∨ v.ownBlock = some k) w w' := ⟨os, tp, out, sz, fun k hk hq => hb k hk (fun q => hq ((hF k).mpr (Or.inl q))) (fun q => hq ((hF k).mpr (Or.inr q))), fun k hk => by
    rcases hk with q | q
    · exact Or.inl ((hF k).mpr (Or.inl q))
    · rcases hv k q with z | z
      · exact Or.inl ((hF k).mpr (Or.inr z))
      · exact Or.inr z⟩
  exact ⟨_, ⟨g, v, rfl, h4, hr, hn, fun _ => Iff.rfl, hw, ha, fun k hk => by
    rcases hm.sub k hk with q | q
    · exact hg2 k q
    · omega⟩, hm⟩

/-- A load of the second error's variable where the disk alone has changed. -/
theorem down_keep {a b : Addr} {w w' : World} (hs : Sent w a b) (hb : ∀ k, k < 2 → w'.heap[k]? = w.heap[k]?) : w'.cell? ⟨0, 0, none⟩ = some (.iface 66 (.pointer (some b))) := by
  rw [World.cell?_of_block (w := w) (hb _ (by decide))]
  exact hs.cd
theorem ng_lt {a b : Addr} {w : World} (hs : Sent w a b) : 2 ≤ w.heap.size := by
  have h1 := cell_lt hs.ca
  have h2 := cell_lt hs.cd
  simp only at h1 h2
  omega

set_option maxRecDepth 100000 in
set_option maxHeartbeats 1600000 in
theorem append_any (a b : Addr) (w : World) (p : Addr) (F : Bl) (s : St) (v : Value) (l : List UInt8) (hs : Sent w a b) (h : LD w p F s) (hl : BY w v l) (hb : s.file.length + l.length ≤ 70000000000000) :
    Calls Tryd.prog 15 #[.pointer (some p), v] w fun e w' => ∃ F', e = .returned (er a b (sApp s l).2) ∧ LD w' p F' (sApp s l).1 ∧ Mv F F' w w' := by
  obtain ⟨g, v0, rfl, h4, hy, hn, hF, hw, ha, hg2⟩ := h
  obtain ⟨file, syn, off, arm⟩ := s
  simp only at h4 hy ha hb
  have c3 := h4.c3
  have hd := hs.cd
  have H4 := hide h4
  have HY := hide hy
  have HN := hide hn
  have HF := hide hF
  have HW := hide hw
  have HA := hide ha
  have HL := hide hl
  have HB := hide hb
  have HG := hide hg2
  obtain ⟨ol, cl, rfl, _, _⟩ := hl.form
  cases off with
  | true =>
    have e : sApp ⟨file, syn, true, arm⟩ l = (⟨file, syn, true, arm⟩, 2) := rfl
    rw [e]
    have e2 : er a b 2 = .iface 66 (.pointer (some b)) := rfl
    simp only [e2]
    clear h4 hy hn hF hw ha hl hb hs e e2 hg2
    go_enter Tryd.func15, Tryd.ntmps15
    go_wp2
    go_ret
    exact ⟨F, rfl, ⟨g, _, rfl, unhide H4, unhide HY, unhide HN, unhide HF, unhide HW, unhide HA, unhide HG⟩, Mv.quiet F (Below.refl _ _)⟩
  | false =>
    rw [go_app]
    have HS := hide hs
    obtain ⟨o0, c0', ev0, _, _⟩ := (FR.by hy).form
    subst ev0
    have c0 := h4.c0
    have hf := h4.f
    have hglt := h4.lt
    clear h4 hy hn hF hw ha hl hb hs hg2
    go_enter Tryd.func15, Tryd.ntmps15
    go_upto_region 3 with fail
    go_wp2_with (at_builtin; refine wpList_append_fr rfl _ _ rfl _ _ file l rfl rfl HY HL HB ?_; intro o1 n1 c1 w1 HA1; have d0 := ((unhide H4).keep ((unhide HA1).block g hglt (unhide HN))).c0; have df := ((unhide H4).keep ((unhide HA1).block g hglt (unhide HN))).f)
    have hA1 : Apf w w1 (.slice o0 file.length c0') (.slice o1 n1 c1) (file ++ l) := HA1
    have r1 := ((unhide H4).keep (hA1.block g hglt (unhide HN))).s0 (.slice o1 n1 c1)
    have U1 := Upd.setCell g 0 w1 (.slice o1 n1 c1)
    have hn1 : (Value.slice o1 n1 c1).ownBlock ≠ some g := fun q => by
      rcases hA1.blk g q with z | z
      · exact unhide HN z
      · omega
    have hd1 : (w1.setCell ⟨g, 0, none⟩ (.slice o1 n1 c1)).cell? ⟨0, 0, none⟩ = _ := down_keep (unhide HS) (fun k hk => by
      have h1 : ∀ k, F k → 2 ≤ k := unhide HG
      have hgk : k ≠ g := fun q => by have := h1 g ((unhide HF g).mpr (Or.inl rfl)); omega
      rw [U1.block k hgk]
      exact hA1.block k (by have := ng_lt (unhide HS); omega) (fun q => by have := h1 k ((unhide HF k).mpr (Or.inr q)); omega))
    have hgg : 2 ≤ g := unhide HG g ((unhide HF g).mpr (Or.inl rfl))
    refine (spend_any a b _ g _ _ arm hd1 hgg r1 (unhide HA)).mono ?_
    rintro e w2 ⟨rfl, r2, u2⟩
    have UU := U1.trans u2
    have FIN := hide (LD.fin (w := w) (s := ⟨file ++ l, syn, arm == 1, arm - 1⟩) (unhide HF) r2 (FR.upd hA1.row UU hn1) hn1 (by have := unhide HW; unfold Wf at this ⊢; simp only [List.length_append] at this ⊢; omega) (by have := unhide HA; show ((arm - 1 : Nat) : Int) ≤ _; omega) (unhide HG) (ng_lt (unhide HS))
      (UU.os.trans hA1.os) (UU.tape.trans hA1.tape) (UU.output.trans hA1.output) (by rw [UU.size]; exact hA1.size) (fun k hk hkg hko => (UU.block k hkg).trans (hA1.block k hk hko)) hA1.blk)
    clear r1 U1 hn1 hd1 hgg r2 u2 UU HA1 hA1 d0 df
    go_wp2
    go_ret
    obtain ⟨F', f1, f2⟩ := unhide FIN
    exact ⟨F', rfl, f1, f2⟩
end Go.Proofs.YtbcclolhfogpnaaDoor.dk
