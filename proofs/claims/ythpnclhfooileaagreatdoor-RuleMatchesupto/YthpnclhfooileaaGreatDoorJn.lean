/- The reference of package rule: Names, walked. -/
import Derived.Test.YthpnclhfooileaaGreatDoorJm
import Derived.Deep.RegionLaw
namespace Go.Proofs.YthpnclhfooileaaGreatDoor.ru
open Go.RowKit Go.Joins

theorem sd_size (k : Nat) (h : k < sdL.length) : sdL[k].size ≤ 20 := by
  have : k = 0 ∨ k = 1 ∨ k = 2 ∨ k = 3 ∨ k = 4 := by have : sdL.length = 5 := rfl; omega
  rcases this with rfl | rfl | rfl | rfl | rfl <;> exact Nat.le_of_ble_eq_true rfl
theorem Sd.start (w : World) : Sd w ((w.alloc (.cells #[.string ⟨#[]⟩, .string ⟨#[65, 110, 100]⟩, .string ⟨#[79, 114]⟩, .string ⟨#[78, 111, 116]⟩] 9)).alloc (.cells #[.string ⟨#[69, 113, 117, 97, 108, 115]⟩, .string ⟨#[76, 101, 115, 115, 84, 104, 97, 110]⟩, .string ⟨#[71, 114, 101, 97, 116, 101, 114, 84, 104, 97, 110]⟩, .string ⟨#[76, 101, 115, 115, 84, 104, 97, 110, 69, 113, 117, 97, 108, 115]⟩, .string ⟨#[71, 114, 101, 97, 116, 101, 114, 84, 104, 97, 110, 69, 113, 117, 97, 108, 115]⟩] 9)) w.heap.size 4 4 (w.heap.size + 1) hd4 := by
  have e1 : ((w.alloc (.cells #[.string ⟨#[]⟩, .string ⟨#[65, 110, 100]⟩, .string ⟨#[79, 114]⟩, .string ⟨#[78, 111, 116]⟩] 9)).alloc (.cells #[.string ⟨#[69, 113, 117, 97, 108, 115]⟩, .string ⟨#[76, 101, 115, 115, 84, 104, 97, 110]⟩, .string ⟨#[71, 114, 101, 97, 116, 101, 114, 84, 104, 97, 110]⟩, .string ⟨#[76, 101, 115, 115, 84, 104, 97, 110, 69, 113, 117, 97, 108, 115]⟩, .string ⟨#[71, 114, 101, 97, 116, 101, 114, 84, 104, 97, 110, 69, 113, 117, 97, 108, 115]⟩] 9)).heap[w.heap.size]? = some (.cells #[.string ⟨#[]⟩, .string ⟨#[65, 110, 100]⟩, .string ⟨#[79, 114]⟩, .string ⟨#[78, 111, 116]⟩] 9 (0, 0)) := by
    rw [Below.heap_alloc _ _ _ (by simp)]
    exact Array.getElem?_push_size
  have e2 : ((w.alloc (.cells #[.string ⟨#[]⟩, .string ⟨#[65, 110, 100]⟩, .string ⟨#[79, 114]⟩, .string ⟨#[78, 111, 116]⟩] 9)).alloc (.cells #[.string ⟨#[69, 113, 117, 97, 108, 115]⟩, .string ⟨#[76, 101, 115, 115, 84, 104, 97, 110]⟩, .string ⟨#[71, 114, 101, 97, 116, 101, 114, 84, 104, 97, 110]⟩, .string ⟨#[76, 101, 115, 115, 84, 104, 97, 110, 69, 113, 117, 97, 108, 115]⟩, .string ⟨#[71, 114, 101, 97, 116, 101, 114, 84, 104, 97, 110, 69, 113, 117, 97, 108, 115]⟩] 9)).heap[w.heap.size + 1]? = some (.cells #[.string ⟨#[69, 113, 117, 97, 108, 115]⟩, .string ⟨#[76, 101, 115, 115, 84, 104, 97, 110]⟩, .string ⟨#[71, 114, 101, 97, 116, 101, 114, 84, 104, 97, 110]⟩, .string ⟨#[76, 101, 115, 115, 84, 104, 97, 110, 69, 113, 117, 97, 108, 115]⟩, .string ⟨#[71, 114, 101, 97, 116, 101, 114, 84, 104, 97, 110, 69, 113, 117, 97, 108, 115]⟩] 9 (0, 0)) := by
    have := Array.getElem?_push_size (xs := (w.alloc (.cells #[.string ⟨#[]⟩, .string ⟨#[65, 110, 100]⟩, .string ⟨#[79, 114]⟩, .string ⟨#[78, 111, 116]⟩] 9)).heap) (x := (.cells #[.string ⟨#[69, 113, 117, 97, 108, 115]⟩, .string ⟨#[76, 101, 115, 115, 84, 104, 97, 110]⟩, .string ⟨#[71, 114, 101, 97, 116, 101, 114, 84, 104, 97, 110]⟩, .string ⟨#[76, 101, 115, 115, 84, 104, 97, 110, 69, 113, 117, 97, 108, 115]⟩, .string ⟨#[71, 114, 101, 97, 116, 101, 114, 84, 104, 97, 110, 69, 113, 117, 97, 108, 115]⟩] 9 (0, 0) : Obj))
    rwa [World.size_alloc] at this
  refine ⟨⟨rfl, Or.inr ⟨w.heap.size, 4, _, rfl, Nat.le_refl _, e1, Nat.le_refl _, by decide, rfl, rfl⟩⟩, fun j hj => ?_, by omega, by simp, ((Below.refl _ _).alloc (Nat.le_refl _) _).alloc (by simp) _⟩
  rw [blk_cell e2]
  have : j = 0 ∨ j = 1 ∨ j = 2 ∨ j = 3 ∨ j = 4 := by have : sdL.length = 5 := rfl; omega
  rcases this with rfl | rfl | rfl | rfl | rfl <;> rfl
/-- The same for an append that stands in a row. -/
theorem wpList_texts {ops : Array Oper} {rest : List Oper} {op : Oper} {a : Act} {Q : Exit → Act → World → Prop} (hgd : op.guard = none) (S X : Operand)
    (ho : op.op = .call { callee := .builtin .append, args := #[S, X], argTypes := #[23, 23] }) (w wr W : World) (g n cap g2 m : Nat) (l news : List ByteArray) (hs : a.eval S = .slice (some ⟨g, 0, none⟩) n cap) (hx : a.eval X = .slice (some ⟨wr.heap.size, 0, none⟩) m m)
    (hown : Hid (Sd w wr g n cap g2 l)) (hm : news.length = m) (hm0 : 0 < m) (hn : l.length + m ≤ 1000) (hW : Hid (Below wr.heap.size wr W)) (hz : W.heap.size = wr.heap.size + 1) (hnews : Hid (W.heap[wr.heap.size]? = some (.cells (news.map vs).toArray 9 (0, 0))))
    (h : ∀ g' cap' w1, Hid (Sd w w1 g' (n + m) cap' g2 (l ++ news)) → wpList Tryz.prog ops Q rest (a.put op.dst (.slice (some ⟨g', 0, none⟩) (n + m) cap')) w1) : wpList Tryz.prog ops Q (op :: rest) a W := by
  refine wpList_plain hgd fun K hK => ?_
  have key := step_texts (ops := ops) (Q := Q) (E0 := True) (K := K) w wr W g n cap g2 m l news S X hgd ho hs hx hown hm hm0 hn hW hz hnews (fun g' cap' w1 hS => hK _ _ (h g' cap' w1 hS))
  have hw : Region.wanted op (yielded ops a.tmps) = true := by simp [Region.wanted, hgd]
  rwa [if_pos hw] at key

set_option maxRecDepth 100000 in
set_option maxHeartbeats 6400000 in
theorem rnames_any : NamesOK (fun _ => True) 8 nmL := by
  intro w _
  have HSd := hide (Sd.start w)
  go_enter Tryz.func8, Tryz.ntmps8
  go_wp2
  go_loopw [1, 3] (fun v i wr => ∃ (k g n cap : Nat), i = .int .i64 (k : Int) ∧ k ≤ 5 ∧ v = .slice (some ⟨g, 0, none⟩) n cap ∧ Hid (Sd w wr g n cap (w.heap.size + 1) (hd4 ++ pairs strB k))) (fun _ i _ => 5 - (intOf i).toNat)
  case atStart => exact ⟨0, _, _, _, rfl, by omega, rfl, by rw [show pairs strB 0 = [] from rfl, List.append_nil]; exact HSd⟩
  case round =>
    clear HSd
    obtain ⟨k, g, n, cap, rfl, hk, rfl, HSd⟩ := hrel
    by_cases hlt : k < 5
    · have hlt' : (k : Int) < 5 := by omega
      have hk5 : k < sdL.length := hlt
      have HP := hide (pairs_next strB k hk5)
      have hcell := (unhide HSd).sd k hk5
      have hlen := pairs_len strB k
      have hpre : (hd4).length ≤ 900 := by decide
      have hn := hide (show (hd4 ++ pairs strB k).length + 2 ≤ 1000 by rw [List.length_append]; omega)
      have hbd : (sdL[k]'hk5).size ≤ 20 := sd_size k hk5
      have hq0 : (strB ++ sdL[k]).size ≤ 100 := by rw [ByteArray.size_append]; show 6 + _ ≤ _; omega
      have hc1 : ∀ u : World, (Op.stringOp .add ⟨#[83, 116, 114, 105, 110, 103]⟩ sdL[k]).run Tryz.prog u = .ok (.string (strB ++ sdL[k])) u := fun u => run_string_add_sum u _ _ (by show 6 + _ ≤ _; omega)
      have hc2 : ∀ u : World, (Op.stringOp .add (strB ++ sdL[k]) ⟨#[80, 97, 116, 104]⟩).run Tryz.prog u = .ok (.string (strB ++ sdL[k] ++ pathB)) u := fun u => run_string_add_sum u _ _ (by show _ + 4 ≤ _; omega)
      generalize strB ++ sdL[k] ++ pathB = p2 at *
      generalize strB ++ sdL[k] = p1 at *
      generalize sdL[k] = lx at *
      have HW1 : Hid (Below wr.heap.size wr (wr.drew.alloc (.cells #[.string p1, .string p2] 9))) := (Below.refl _ _).drew.alloc (Nat.le_refl _) _
      have HN1 : Hid ((wr.drew.alloc (.cells #[.string p1, .string p2] 9)).heap[wr.heap.size]? = some (.cells ([p1, p2].map vs).toArray 9 (0, 0))) := Array.getElem?_push_size
      have hz1 : (wr.drew.alloc (.cells #[.string p1, .string p2] 9)).heap.size = wr.heap.size + 1 := World.size_alloc _ _
      clear hbd hq0 hlen hpre
      go_wp2_with fail
      go_region_law (refine step_texts w wr _ g n cap (w.heap.size + 1) 2 (hd4 ++ pairs strB k) [p1, p2] (.tmp 14) (.tmp 26) (by rfl) (by rfl) (by rfl) (by rfl) HSd rfl (by omega) (unhide hn) (by exact HW1) (by exact hz1) (by exact HN1) ?_
                     intro g' cap' w1 HS')
      all_goals have HS2 := hide (show Sd w w1 g' (n + 2) cap' (w.heap.size + 1) (hd4 ++ pairs strB (k + 1)) by rw [unhide HP, ← List.append_assoc]; exact unhide HS')
      all_goals clear HS' HP HSd hcell HW1 HN1 hz1 hn
      all_goals go_wp2
      all_goals exact ⟨⟨k + 1, g', _, cap', by go_num, by omega, rfl, HS2⟩, by simp [intOf]; omega⟩
    · have hlt' : ¬ (k : Int) < 5 := by omega
      have hk5 : k = 5 := by omega
      subst hk5
      have hl1 : ((hd4 ++ pairs strB 5)).length ≤ 900 := by decide
      go_wp2_with (at_builtin; refine wpList_texts rfl _ _ rfl w wr (wr.alloc (.cells #[.string ⟨#[83, 116, 114, 105, 110, 103, 77, 97, 116, 99, 104, 101, 115]⟩] 9)) g n cap (w.heap.size + 1) 1 ((hd4 ++ pairs strB 5)) mid1 rfl rfl HSd rfl (by omega) (by omega) (hide ((Below.refl _ _).alloc (Nat.le_refl _) _)) (World.size_alloc _ _) (hide Array.getElem?_push_size) ?_)
      intro g' cap' w1 HS'
      clear HSd hl1
      have HSd := HS'
      clear HS'
      go_wp2
      go_loopw [1, 4] (fun v i wr => ∃ (k g n cap : Nat), i = .int .i64 (k : Int) ∧ k ≤ 5 ∧ v = .slice (some ⟨g, 0, none⟩) n cap ∧ Hid (Sd w wr g n cap (w.heap.size + 1) (((hd4 ++ pairs strB 5) ++ mid1) ++ pairs numB k))) (fun _ i _ => 5 - (intOf i).toNat)
      case atStart => exact ⟨0, _, _, _, rfl, by omega, rfl, by rw [show pairs numB 0 = [] from rfl, List.append_nil]; exact HSd⟩
      case round =>
        clear HSd
        obtain ⟨k, g, n, cap, rfl, hk, rfl, HSd⟩ := hrel
        by_cases hlt : k < 5
        · have hlt' : (k : Int) < 5 := by omega
          have hk5 : k < sdL.length := hlt
          have HP := hide (pairs_next numB k hk5)
          have hcell := (unhide HSd).sd k hk5
          have hlen := pairs_len numB k
          have hpre : (((hd4 ++ pairs strB 5) ++ mid1)).length ≤ 900 := by decide
          have hn := hide (show (((hd4 ++ pairs strB 5) ++ mid1) ++ pairs numB k).length + 2 ≤ 1000 by rw [List.length_append]; omega)
          have hbd : (sdL[k]'hk5).size ≤ 20 := sd_size k hk5
          have hq0 : (numB ++ sdL[k]).size ≤ 100 := by rw [ByteArray.size_append]; show 7 + _ ≤ _; omega
          have hc1 : ∀ u : World, (Op.stringOp .add ⟨#[78, 117, 109, 101, 114, 105, 99]⟩ sdL[k]).run Tryz.prog u = .ok (.string (numB ++ sdL[k])) u := fun u => run_string_add_sum u _ _ (by show 7 + _ ≤ _; omega)
          have hc2 : ∀ u : World, (Op.stringOp .add (numB ++ sdL[k]) ⟨#[80, 97, 116, 104]⟩).run Tryz.prog u = .ok (.string (numB ++ sdL[k] ++ pathB)) u := fun u => run_string_add_sum u _ _ (by show _ + 4 ≤ _; omega)
          generalize numB ++ sdL[k] ++ pathB = p2 at *
          generalize numB ++ sdL[k] = p1 at *
          generalize sdL[k] = lx at *
          have HW1 : Hid (Below wr.heap.size wr (wr.drew.alloc (.cells #[.string p1, .string p2] 9))) := (Below.refl _ _).drew.alloc (Nat.le_refl _) _
          have HN1 : Hid ((wr.drew.alloc (.cells #[.string p1, .string p2] 9)).heap[wr.heap.size]? = some (.cells ([p1, p2].map vs).toArray 9 (0, 0))) := Array.getElem?_push_size
          have hz1 : (wr.drew.alloc (.cells #[.string p1, .string p2] 9)).heap.size = wr.heap.size + 1 := World.size_alloc _ _
          clear hbd hq0 hlen hpre
          go_wp2_with fail
          go_region_law (refine step_texts w wr _ g n cap (w.heap.size + 1) 2 (((hd4 ++ pairs strB 5) ++ mid1) ++ pairs numB k) [p1, p2] (.tmp 37) (.tmp 49) (by rfl) (by rfl) (by rfl) (by rfl) HSd rfl (by omega) (unhide hn) (by exact HW1) (by exact hz1) (by exact HN1) ?_
                         intro g' cap' w1 HS')
          all_goals have HS2 := hide (show Sd w w1 g' (n + 2) cap' (w.heap.size + 1) (((hd4 ++ pairs strB 5) ++ mid1) ++ pairs numB (k + 1)) by rw [unhide HP, ← List.append_assoc]; exact unhide HS')
          all_goals clear HS' HP HSd hcell HW1 HN1 hz1 hn
          all_goals go_wp2
          all_goals exact ⟨⟨k + 1, g', _, cap', by go_num, by omega, rfl, HS2⟩, by simp [intOf]; omega⟩
        · have hlt' : ¬ (k : Int) < 5 := by omega
          have hk5 : k = 5 := by omega
          subst hk5
          have hl2 : (((hd4 ++ pairs strB 5) ++ mid1 ++ pairs numB 5)).length ≤ 900 := by decide
          go_wp2_with (at_builtin; refine wpList_texts rfl _ _ rfl w wr (wr.alloc (.cells #[.string ⟨#[66, 111, 111, 108, 101, 97, 110, 69, 113, 117, 97, 108, 115]⟩, .string ⟨#[66, 111, 111, 108, 101, 97, 110, 69, 113, 117, 97, 108, 115, 80, 97, 116, 104]⟩] 9)) g n cap (w.heap.size + 1) 2 (((hd4 ++ pairs strB 5) ++ mid1 ++ pairs numB 5)) mid2 rfl rfl HSd rfl (by omega) (by omega) (hide ((Below.refl _ _).alloc (Nat.le_refl _) _)) (World.size_alloc _ _) (hide Array.getElem?_push_size) ?_)
          intro g' cap' w1 HS'
          clear HSd hl2
          have HSd := HS'
          clear HS'
          go_wp2
          go_loopw [1, 5] (fun v i wr => ∃ (k g n cap : Nat), i = .int .i64 (k : Int) ∧ k ≤ 5 ∧ v = .slice (some ⟨g, 0, none⟩) n cap ∧ Hid (Sd w wr g n cap (w.heap.size + 1) ((((hd4 ++ pairs strB 5) ++ mid1 ++ pairs numB 5) ++ mid2) ++ pairs timB k))) (fun _ i _ => 5 - (intOf i).toNat)
          case atStart => exact ⟨0, _, _, _, rfl, by omega, rfl, by rw [show pairs timB 0 = [] from rfl, List.append_nil]; exact HSd⟩
          case round =>
            clear HSd
            obtain ⟨k, g, n, cap, rfl, hk, rfl, HSd⟩ := hrel
            by_cases hlt : k < 5
            · have hlt' : (k : Int) < 5 := by omega
              have hk5 : k < sdL.length := hlt
              have HP := hide (pairs_next timB k hk5)
              have hcell := (unhide HSd).sd k hk5
              have hlen := pairs_len timB k
              have hpre : ((((hd4 ++ pairs strB 5) ++ mid1 ++ pairs numB 5) ++ mid2)).length ≤ 900 := by decide
              have hn := hide (show ((((hd4 ++ pairs strB 5) ++ mid1 ++ pairs numB 5) ++ mid2) ++ pairs timB k).length + 2 ≤ 1000 by rw [List.length_append]; omega)
              have hbd : (sdL[k]'hk5).size ≤ 20 := sd_size k hk5
              have hq0 : (timB ++ sdL[k]).size ≤ 100 := by rw [ByteArray.size_append]; show 9 + _ ≤ _; omega
              have hc1 : ∀ u : World, (Op.stringOp .add ⟨#[84, 105, 109, 101, 115, 116, 97, 109, 112]⟩ sdL[k]).run Tryz.prog u = .ok (.string (timB ++ sdL[k])) u := fun u => run_string_add_sum u _ _ (by show 9 + _ ≤ _; omega)
              have hc2 : ∀ u : World, (Op.stringOp .add (timB ++ sdL[k]) ⟨#[80, 97, 116, 104]⟩).run Tryz.prog u = .ok (.string (timB ++ sdL[k] ++ pathB)) u := fun u => run_string_add_sum u _ _ (by show _ + 4 ≤ _; omega)
              generalize timB ++ sdL[k] ++ pathB = p2 at *
              generalize timB ++ sdL[k] = p1 at *
              generalize sdL[k] = lx at *
              have HW1 : Hid (Below wr.heap.size wr (wr.drew.alloc (.cells #[.string p1, .string p2] 9))) := (Below.refl _ _).drew.alloc (Nat.le_refl _) _
              have HN1 : Hid ((wr.drew.alloc (.cells #[.string p1, .string p2] 9)).heap[wr.heap.size]? = some (.cells ([p1, p2].map vs).toArray 9 (0, 0))) := Array.getElem?_push_size
              have hz1 : (wr.drew.alloc (.cells #[.string p1, .string p2] 9)).heap.size = wr.heap.size + 1 := World.size_alloc _ _
              clear hbd hq0 hlen hpre
              go_wp2_with fail
              go_region_law (refine step_texts w wr _ g n cap (w.heap.size + 1) 2 ((((hd4 ++ pairs strB 5) ++ mid1 ++ pairs numB 5) ++ mid2) ++ pairs timB k) [p1, p2] (.tmp 60) (.tmp 72) (by rfl) (by rfl) (by rfl) (by rfl) HSd rfl (by omega) (unhide hn) (by exact HW1) (by exact hz1) (by exact HN1) ?_
                             intro g' cap' w1 HS')
              all_goals have HS2 := hide (show Sd w w1 g' (n + 2) cap' (w.heap.size + 1) ((((hd4 ++ pairs strB 5) ++ mid1 ++ pairs numB 5) ++ mid2) ++ pairs timB (k + 1)) by rw [unhide HP, ← List.append_assoc]; exact unhide HS')
              all_goals clear HS' HP HSd hcell HW1 HN1 hz1 hn
              all_goals go_wp2
              all_goals exact ⟨⟨k + 1, g', _, cap', by go_num, by omega, rfl, HS2⟩, by simp [intOf]; omega⟩
            · have hlt' : ¬ (k : Int) < 5 := by omega
              have hk5 : k = 5 := by omega
              subst hk5
              have hl3 : ((((hd4 ++ pairs strB 5) ++ mid1 ++ pairs numB 5) ++ mid2 ++ pairs timB 5)).length ≤ 900 := by decide
              go_wp2_with (at_builtin; refine wpList_texts rfl _ _ rfl w wr (wr.alloc (.cells #[.string ⟨#[73, 115, 78, 117, 108, 108]⟩, .string ⟨#[73, 115, 80, 114, 101, 115, 101, 110, 116]⟩, .string ⟨#[73, 115, 78, 117, 109, 101, 114, 105, 99]⟩, .string ⟨#[73, 115, 83, 116, 114, 105, 110, 103]⟩, .string ⟨#[73, 115, 66, 111, 111, 108, 101, 97, 110]⟩, .string ⟨#[73, 115, 84, 105, 109, 101, 115, 116, 97, 109, 112]⟩] 9)) g n cap (w.heap.size + 1) 6 ((((hd4 ++ pairs strB 5) ++ mid1 ++ pairs numB 5) ++ mid2 ++ pairs timB 5)) end6 rfl rfl HSd rfl (by omega) (by omega) (hide ((Below.refl _ _).alloc (Nat.le_refl _) _)) (World.size_alloc _ _) (hide Array.getElem?_push_size) ?_)
              intro g' cap' w1 HS'
              clear HSd hl3
              have HSd := HS'
              clear HS'
              have HO := hide (unhide HSd).own
              have HB := hide (unhide HSd).below
              clear HSd
              go_wp2
              go_ret
              exact ⟨_, rfl, unhide HO, unhide HB⟩
end Go.Proofs.YthpnclhfooileaaGreatDoor.ru
