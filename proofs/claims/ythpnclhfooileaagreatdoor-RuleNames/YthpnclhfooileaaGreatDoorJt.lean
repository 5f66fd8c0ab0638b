/- law7.awake answers true, if Eval and Match answer as is asked. -/
import Derived.Test.YthpnclhfooileaaGreatDoorJs
namespace Go.Proofs.YthpnclhfooileaaGreatDoor.ru
open Go.RowKit
theorem three0 (w : World) (a b c : Array Value) (t u v : TypeId) : (((w.alloc (.cells a t)).alloc (.cells b u)).alloc (.cells c v)).heap[w.heap.size]? = some (.cells a t (0, 0)) := by
  rw [Below.heap_alloc _ _ _ (by rw [World.size_alloc, World.size_alloc]; omega)]
  exact two_lo w a b t u
theorem three1 (w : World) (a b c : Array Value) (t u v : TypeId) : (((w.alloc (.cells a t)).alloc (.cells b u)).alloc (.cells c v)).heap[w.heap.size + 1]? = some (.cells b u (0, 0)) := by
  rw [Below.heap_alloc _ _ _ (by rw [World.size_alloc, World.size_alloc]; omega)]
  exact two_hi w a b t u
theorem three2 (w : World) (a b c : Array Value) (t u v : TypeId) : (((w.alloc (.cells a t)).alloc (.cells b u)).alloc (.cells c v)).heap[w.heap.size + 1 + 1]? = some (.cells c v (0, 0)) := by
  have := two_hi (w.alloc (.cells a t)) b c u v
  simpa only [World.size_alloc] using this
/-- What awake has built: the number, the object and its one field. -/
structure AwW (w wd : World) : Prop where
  cs : wd.cell? ⟨w.heap.size, 0, none⟩ = some (.int .i64 2) ∧ wd.cell? ⟨w.heap.size, 1, none⟩ = some (.bool false) ∧ wd.cell? ⟨w.heap.size, 2, none⟩ = some (.bool false) ∧ wd.cell? ⟨w.heap.size, 3, none⟩ = some (.string ⟨#[51]⟩) ∧ wd.cell? ⟨w.heap.size, 4, none⟩ = some (.int .i64 0) ∧ wd.cell? ⟨w.heap.size, 5, none⟩ = some (.string ⟨#[]⟩) ∧ wd.cell? ⟨w.heap.size, 6, none⟩ = some (.slice none 0 0) ∧ wd.cell? ⟨w.heap.size, 7, none⟩ = some (.slice none 0 0) ∧ wd.cell? ⟨w.heap.size + 1 + 1, 0, none⟩ = some (.int .i64 5) ∧ wd.cell? ⟨w.heap.size + 1 + 1, 1, none⟩ = some (.bool false) ∧ wd.cell? ⟨w.heap.size + 1 + 1, 2, none⟩ = some (.bool false) ∧ wd.cell? ⟨w.heap.size + 1 + 1, 3, none⟩ = some (.string ⟨#[]⟩) ∧ wd.cell? ⟨w.heap.size + 1 + 1, 4, none⟩ = some (.int .i64 0) ∧ wd.cell? ⟨w.heap.size + 1 + 1, 5, none⟩ = some (.string ⟨#[]⟩) ∧ wd.cell? ⟨w.heap.size + 1 + 1, 6, none⟩ = some (.slice none 0 0) ∧ wd.cell? ⟨w.heap.size + 1 + 1, 7, none⟩ = some (.slice (some ⟨w.heap.size + 1, 0, none⟩) 1 1)
  fd : FieldAt wd (w.heap.size + 1)
  below : Below w.heap.size w wd
theorem AwW.drew {w wd : World} (h : AwW w wd) : AwW w wd.drew := ⟨h.cs, h.fd, h.below.drew⟩
theorem keep16 {w W w1 : World} (hb : Below W.heap.size W w1) (h : W.cell? ⟨w.heap.size, 0, none⟩ = some (.int .i64 2) ∧ W.cell? ⟨w.heap.size, 1, none⟩ = some (.bool false) ∧ W.cell? ⟨w.heap.size, 2, none⟩ = some (.bool false) ∧ W.cell? ⟨w.heap.size, 3, none⟩ = some (.string ⟨#[51]⟩) ∧ W.cell? ⟨w.heap.size, 4, none⟩ = some (.int .i64 0) ∧ W.cell? ⟨w.heap.size, 5, none⟩ = some (.string ⟨#[]⟩) ∧ W.cell? ⟨w.heap.size, 6, none⟩ = some (.slice none 0 0) ∧ W.cell? ⟨w.heap.size, 7, none⟩ = some (.slice none 0 0) ∧ W.cell? ⟨w.heap.size + 1 + 1, 0, none⟩ = some (.int .i64 5) ∧ W.cell? ⟨w.heap.size + 1 + 1, 1, none⟩ = some (.bool false) ∧ W.cell? ⟨w.heap.size + 1 + 1, 2, none⟩ = some (.bool false) ∧ W.cell? ⟨w.heap.size + 1 + 1, 3, none⟩ = some (.string ⟨#[]⟩) ∧ W.cell? ⟨w.heap.size + 1 + 1, 4, none⟩ = some (.int .i64 0) ∧ W.cell? ⟨w.heap.size + 1 + 1, 5, none⟩ = some (.string ⟨#[]⟩) ∧ W.cell? ⟨w.heap.size + 1 + 1, 6, none⟩ = some (.slice none 0 0) ∧ W.cell? ⟨w.heap.size + 1 + 1, 7, none⟩ = some (.slice (some ⟨w.heap.size + 1, 0, none⟩) 1 1)) : w1.cell? ⟨w.heap.size, 0, none⟩ = some (.int .i64 2) ∧ w1.cell? ⟨w.heap.size, 1, none⟩ = some (.bool false) ∧ w1.cell? ⟨w.heap.size, 2, none⟩ = some (.bool false) ∧ w1.cell? ⟨w.heap.size, 3, none⟩ = some (.string ⟨#[51]⟩) ∧ w1.cell? ⟨w.heap.size, 4, none⟩ = some (.int .i64 0) ∧ w1.cell? ⟨w.heap.size, 5, none⟩ = some (.string ⟨#[]⟩) ∧ w1.cell? ⟨w.heap.size, 6, none⟩ = some (.slice none 0 0) ∧ w1.cell? ⟨w.heap.size, 7, none⟩ = some (.slice none 0 0) ∧ w1.cell? ⟨w.heap.size + 1 + 1, 0, none⟩ = some (.int .i64 5) ∧ w1.cell? ⟨w.heap.size + 1 + 1, 1, none⟩ = some (.bool false) ∧ w1.cell? ⟨w.heap.size + 1 + 1, 2, none⟩ = some (.bool false) ∧ w1.cell? ⟨w.heap.size + 1 + 1, 3, none⟩ = some (.string ⟨#[]⟩) ∧ w1.cell? ⟨w.heap.size + 1 + 1, 4, none⟩ = some (.int .i64 0) ∧ w1.cell? ⟨w.heap.size + 1 + 1, 5, none⟩ = some (.string ⟨#[]⟩) ∧ w1.cell? ⟨w.heap.size + 1 + 1, 6, none⟩ = some (.slice none 0 0) ∧ w1.cell? ⟨w.heap.size + 1 + 1, 7, none⟩ = some (.slice (some ⟨w.heap.size + 1, 0, none⟩) 1 1) := by
  obtain ⟨x0, x1, x2, x3, x4, x5, x6, x7, x8, x9, x10, x11, x12, x13, x14, x15⟩ := h
  exact ⟨keepC' hb x0, keepC' hb x1, keepC' hb x2, keepC' hb x3, keepC' hb x4, keepC' hb x5, keepC' hb x6, keepC' hb x7, keepC' hb x8, keepC' hb x9, keepC' hb x10, keepC' hb x11, keepC' hb x12, keepC' hb x13, keepC' hb x14, keepC' hb x15⟩
theorem AwW.size {w wd : World} (h : AwW w wd) : w.heap.size ≤ wd.heap.size := h.below.size
theorem AwW.call {w wd w' : World} (h : AwW w wd) (hb : Below wd.heap.size wd w') : AwW w w' := ⟨keep16 hb h.cs, h.fd.keep hb, h.below.trans (hb.mono h.size)⟩
theorem AwW.start (w : World) : AwW w (((w.alloc (.cells #[.int .i64 2, .bool false, .bool false, .string ⟨#[51]⟩, .int .i64 0, .string ⟨#[]⟩, .slice none 0 0, .slice none 0 0] 34)).alloc (.cells #[.string ⟨#[110]⟩, .int .i64 2, .bool false, .bool false, .string ⟨#[51]⟩, .int .i64 0, .string ⟨#[]⟩, .slice none 0 0, .slice none 0 0] 36)).alloc (.cells #[.int .i64 5, .bool false, .bool false, .string ⟨#[]⟩, .int .i64 0, .string ⟨#[]⟩, .slice none 0 0, .slice (some ⟨w.heap.size + 1, 0, none⟩) 1 1] 34)) := by
  have h0 := three0 w #[.int .i64 2, .bool false, .bool false, .string ⟨#[51]⟩, .int .i64 0, .string ⟨#[]⟩, .slice none 0 0, .slice none 0 0] #[.string ⟨#[110]⟩, .int .i64 2, .bool false, .bool false, .string ⟨#[51]⟩, .int .i64 0, .string ⟨#[]⟩, .slice none 0 0, .slice none 0 0] #[.int .i64 5, .bool false, .bool false, .string ⟨#[]⟩, .int .i64 0, .string ⟨#[]⟩, .slice none 0 0, .slice (some ⟨w.heap.size + 1, 0, none⟩) 1 1] 34 36 34
  have h1 := three1 w #[.int .i64 2, .bool false, .bool false, .string ⟨#[51]⟩, .int .i64 0, .string ⟨#[]⟩, .slice none 0 0, .slice none 0 0] #[.string ⟨#[110]⟩, .int .i64 2, .bool false, .bool false, .string ⟨#[51]⟩, .int .i64 0, .string ⟨#[]⟩, .slice none 0 0, .slice none 0 0] #[.int .i64 5, .bool false, .bool false, .string ⟨#[]⟩, .int .i64 0, .string ⟨#[]⟩, .slice none 0 0, .slice (some ⟨w.heap.size + 1, 0, none⟩) 1 1] 34 36 34
  have h2 := three2 w #[.int .i64 2, .bool false, .bool false, .string ⟨#[51]⟩, .int .i64 0, .string ⟨#[]⟩, .slice none 0 0, .slice none 0 0] #[.string ⟨#[110]⟩, .int .i64 2, .bool false, .bool false, .string ⟨#[51]⟩, .int .i64 0, .string ⟨#[]⟩, .slice none 0 0, .slice none 0 0] #[.int .i64 5, .bool false, .bool false, .string ⟨#[]⟩, .int .i64 0, .string ⟨#[]⟩, .slice none 0 0, .slice (some ⟨w.heap.size + 1, 0, none⟩) 1 1] 34 36 34
  refine ⟨⟨blk_cell h0 0, blk_cell h0 1, blk_cell h0 2, blk_cell h0 3, blk_cell h0 4, blk_cell h0 5, blk_cell h0 6, blk_cell h0 7, blk_cell h2 0, blk_cell h2 1, blk_cell h2 2, blk_cell h2 3, blk_cell h2 4, blk_cell h2 5, blk_cell h2 6, blk_cell h2 7⟩, ⟨blk_cell h1 0, ?_⟩, (two_below w _ _).alloc (by rw [World.size_alloc, World.size_alloc]; omega) _⟩
  intro j hj
  match j, hj with
  | 0, _ => exact blk_cell h1 1
  | 1, _ => exact blk_cell h1 2
  | 2, _ => exact blk_cell h1 3
  | 3, _ => exact blk_cell h1 4
  | 4, _ => exact blk_cell h1 5
  | 5, _ => exact blk_cell h1 6
  | 6, _ => exact blk_cell h1 7
  | 7, _ => exact blk_cell h1 8
set_option maxRecDepth 100000 in
theorem awake_any {G : World → Prop} {a : Addr} (hK : ∀ w w', G w → Below w.heap.size w w' → G w') (hP : ∀ w, G w → SentP w a) (E : EvalOK G a)
    (mat : ∀ (w : World), G w → Calls Tryz.prog 9 #[.string ⟨#[97, 42, 98, 92, 42]⟩, .string ⟨#[97, 120, 120, 98, 42]⟩] w fun e w' => e = .returned (.bool true) ∧ Below w.heap.size w w')
    (w : World) (hG : G w) : Calls Tryz.prog 6 #[] w fun e w' => e = .returned (.bool true) ∧ Below w.heap.size w w' := by
  have HK := hide (fun wd (h : Below w.heap.size w wd) => hK w wd hG h)
  have CA := hide at_any
  have CY := hide E.yes
  have CN := hide E.no
  have CM := hide mat
  have HP := hide hP
  have HS := hide (AwW.start w)
  unfold ruleV objV z8 at CY CN
  clear hK hP E mat hG
  go_enter Tryz.func6, Tryz.ntmps6
  go_wp2_with fail
  generalize (((w.alloc (.cells #[.int .i64 2, .bool false, .bool false, .string ⟨#[51]⟩, .int .i64 0, .string ⟨#[]⟩, .slice none 0 0, .slice none 0 0] 34)).alloc (.cells #[.string ⟨#[110]⟩, .int .i64 2, .bool false, .bool false, .string ⟨#[51]⟩, .int .i64 0, .string ⟨#[]⟩, .slice none 0 0, .slice none 0 0] 36)).alloc (.cells #[.int .i64 5, .bool false, .bool false, .string ⟨#[]⟩, .int .i64 0, .string ⟨#[]⟩, .slice none 0 0, .slice (some ⟨w.heap.size + 1, 0, none⟩) 1 1] 34)) = W0 at HS ⊢
  have hW := unhide HS
  obtain ⟨x0, x1, x2, x3, x4, x5, x6, x7, x8, x9, x10, x11, x12, x13, x14, x15⟩ := hW.cs
  clear HS
  go_cut [3, 4] from 8 (fun s3 s4 wd => s3 = .bool true ∧ s4 = .nilIface ∧ AwW w wd)
  case first =>
    unfold pathV at CA
    go_region_held3 (fun w' => w'.cell? ⟨w.heap.size, 0, none⟩ = some (.int .i64 2) ∧ w'.cell? ⟨w.heap.size, 1, none⟩ = some (.bool false) ∧ w'.cell? ⟨w.heap.size, 2, none⟩ = some (.bool false) ∧ w'.cell? ⟨w.heap.size, 3, none⟩ = some (.string ⟨#[51]⟩) ∧ w'.cell? ⟨w.heap.size, 4, none⟩ = some (.int .i64 0) ∧ w'.cell? ⟨w.heap.size, 5, none⟩ = some (.string ⟨#[]⟩) ∧ w'.cell? ⟨w.heap.size, 6, none⟩ = some (.slice none 0 0) ∧ w'.cell? ⟨w.heap.size, 7, none⟩ = some (.slice none 0 0) ∧ w'.cell? ⟨w.heap.size + 1 + 1, 0, none⟩ = some (.int .i64 5) ∧ w'.cell? ⟨w.heap.size + 1 + 1, 1, none⟩ = some (.bool false) ∧ w'.cell? ⟨w.heap.size + 1 + 1, 2, none⟩ = some (.bool false) ∧ w'.cell? ⟨w.heap.size + 1 + 1, 3, none⟩ = some (.string ⟨#[]⟩) ∧ w'.cell? ⟨w.heap.size + 1 + 1, 4, none⟩ = some (.int .i64 0) ∧ w'.cell? ⟨w.heap.size + 1 + 1, 5, none⟩ = some (.string ⟨#[]⟩) ∧ w'.cell? ⟨w.heap.size + 1 + 1, 6, none⟩ = some (.slice none 0 0) ∧ w'.cell? ⟨w.heap.size + 1 + 1, 7, none⟩ = some (.slice (some ⟨w.heap.size + 1, 0, none⟩) 1 1)) (((try dsimp only); (repeat' apply And.intro); all_goals first | (go_keep; done) | (simp; omega))) (first
      | (go_at_call 13; refine (unhide CA _ _).mono ?_; rintro e w1 ⟨sb, rfl, hs1, h1⟩; obtain ⟨k0, k1, k2, k3, k4, k5, k6, k7, k8, k9, k10, k11, k12, k13, k14, k15⟩ := keep16 (w := w) h1 (by first | assumption | go_keep); have hW1 := hW.drew.call h1; clear h1)
      | (go_at_call 12; refine (unhide CY sb (w.heap.size + 1) _ (unhide HK _ hW1.below) hs1 hW1.fd).mono ?_; rintro e w2 ⟨rfl, h2⟩; obtain ⟨m0, m1, m2, m3, m4, m5, m6, m7, m8, m9, m10, m11, m12, m13, m14, m15⟩ := keep16 (w := w) h2 (by first | assumption | go_keep); have hW2 := hW1.call h2; clear h2))
    all_goals go_wp2_with fail
    all_goals go_meet
    all_goals exact ⟨rfl, rfl, hW2⟩
  case rest =>
    clear hW x0 x1 x2 x3 x4 x5 x6 x7 x8 x9 x10 x11 x12 x13 x14 x15 CY
    obtain ⟨rfl, rfl, hA⟩ := hcut
    obtain ⟨x0, x1, x2, x3, x4, x5, x6, x7, x8, x9, x10, x11, x12, x13, x14, x15⟩ := hA.cs
    go_wp2_with fail
    go_cut [5, 6] from 8 (fun s5 s6 wd => s5 = .bool false ∧ s6 = eP a ∧ AwW w wd)
    case first =>
      unfold pathV at CA
      go_region_held3 (fun w' => w'.cell? ⟨w.heap.size, 0, none⟩ = some (.int .i64 2) ∧ w'.cell? ⟨w.heap.size, 1, none⟩ = some (.bool false) ∧ w'.cell? ⟨w.heap.size, 2, none⟩ = some (.bool false) ∧ w'.cell? ⟨w.heap.size, 3, none⟩ = some (.string ⟨#[51]⟩) ∧ w'.cell? ⟨w.heap.size, 4, none⟩ = some (.int .i64 0) ∧ w'.cell? ⟨w.heap.size, 5, none⟩ = some (.string ⟨#[]⟩) ∧ w'.cell? ⟨w.heap.size, 6, none⟩ = some (.slice none 0 0) ∧ w'.cell? ⟨w.heap.size, 7, none⟩ = some (.slice none 0 0) ∧ w'.cell? ⟨w.heap.size + 1 + 1, 0, none⟩ = some (.int .i64 5) ∧ w'.cell? ⟨w.heap.size + 1 + 1, 1, none⟩ = some (.bool false) ∧ w'.cell? ⟨w.heap.size + 1 + 1, 2, none⟩ = some (.bool false) ∧ w'.cell? ⟨w.heap.size + 1 + 1, 3, none⟩ = some (.string ⟨#[]⟩) ∧ w'.cell? ⟨w.heap.size + 1 + 1, 4, none⟩ = some (.int .i64 0) ∧ w'.cell? ⟨w.heap.size + 1 + 1, 5, none⟩ = some (.string ⟨#[]⟩) ∧ w'.cell? ⟨w.heap.size + 1 + 1, 6, none⟩ = some (.slice none 0 0) ∧ w'.cell? ⟨w.heap.size + 1 + 1, 7, none⟩ = some (.slice (some ⟨w.heap.size + 1, 0, none⟩) 1 1)) (((try dsimp only); (repeat' apply And.intro); all_goals first | (go_keep; done) | (simp; omega))) (first
        | (go_at_call 13; refine (unhide CA _ _).mono ?_; rintro e w1 ⟨sb, rfl, hs1, h1⟩; obtain ⟨k0, k1, k2, k3, k4, k5, k6, k7, k8, k9, k10, k11, k12, k13, k14, k15⟩ := keep16 (w := w) h1 (by first | assumption | go_keep); have hW1 := hA.drew.call h1; clear h1)
        | (go_at_call 12; refine (unhide CN sb (w.heap.size + 1) _ (unhide HK _ hW1.below) hs1 hW1.fd).mono ?_; rintro e w2 ⟨rfl, h2⟩; obtain ⟨m0, m1, m2, m3, m4, m5, m6, m7, m8, m9, m10, m11, m12, m13, m14, m15⟩ := keep16 (w := w) h2 (by first | assumption | go_keep); have hW2 := hW1.call h2; clear h2))
      all_goals go_wp2_with fail
      all_goals go_meet
      all_goals exact ⟨rfl, rfl, hW2⟩
    case rest =>
      clear hA x0 x1 x2 x3 x4 x5 x6 x7 x8 x9 x10 x11 x12 x13 x14 x15 CN CA
      obtain ⟨rfl, rfl, hB⟩ := hcut
      have hBb := hB.below
      clear hB
      go_wp2_with fail
      refine (unhide CM _ (unhide HK _ hBb)).mono ?_
      rintro e w3 ⟨rfl, h3⟩
      have h4 := hBb.trans (h3.mono hBb.size)
      have hn := (unhide HP _ (unhide HK _ h4)).n
      have hq := eql_sameE w3 a
      clear h3 hBb CM HK HP
      unfold eP
      go_wp2
      go_ret
      exact ⟨rfl, h4⟩
end Go.Proofs.YthpnclhfooileaaGreatDoor.ru
