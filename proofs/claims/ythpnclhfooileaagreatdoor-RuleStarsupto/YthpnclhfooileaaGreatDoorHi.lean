/- Package rule: Names. -/
import Derived.Test.YthpnclhfooileaaGreatDoorHh
import Derived.Test.YthpnclhfooileaaGreatDoorJm
import Derived.Laws.EntriesVeiled
namespace Go.Proofs.YthpnclhfooileaaGreatDoor.ru
open Go.RowKit Go.Joins

/-- A value that is stored as it is. -/
def Sto (x : Value) : Prop := ∀ (u : World) (a : Addr), (store a x).run Tryz.prog u = stored Tryz.prog u a x .plain
/-- The k-th row of the table: its name, and three values more. -/
def rowAt (n k : Nat) (b : ByteArray) : Prop := ∃ x y z, (rowC n)[k * 4]? = some (.string b) ∧ (rowC n)[k * 4 + 1]? = some x ∧ (rowC n)[k * 4 + 2]? = some y ∧ (rowC n)[k * 4 + 3]? = some z ∧ Sto x ∧ Sto y ∧ Sto z
set_option maxRecDepth 100000 in
theorem rows_all (n : Nat) : ∀ k (h : k < 43), rowAt n k (nmL[k]'(by rw [nmL_len]; exact h)) := by
  intro k h
  by_cases h21 : k < 21
  · by_cases h10 : k < 10
    · by_cases h5 : k < 5
      · by_cases h2 : k < 2
        · by_cases h1 : k < 1
          · obtain rfl : k = 0 := by omega
            exact ⟨_, _, _, rfl, rfl, rfl, rfl, fun _ _ => run_store _ _ _ _ _ rfl, fun _ _ => run_store _ _ _ _ _ rfl, fun _ _ => run_store _ _ _ _ _ rfl⟩
          · obtain rfl : k = 1 := by omega
            exact ⟨_, _, _, rfl, rfl, rfl, rfl, fun _ _ => run_store _ _ _ _ _ rfl, fun _ _ => run_store _ _ _ _ _ rfl, fun _ _ => run_store _ _ _ _ _ rfl⟩
        · by_cases h3 : k < 3
          · obtain rfl : k = 2 := by omega
            exact ⟨_, _, _, rfl, rfl, rfl, rfl, fun _ _ => run_store _ _ _ _ _ rfl, fun _ _ => run_store _ _ _ _ _ rfl, fun _ _ => run_store _ _ _ _ _ rfl⟩
          · by_cases h4 : k < 4
            · obtain rfl : k = 3 := by omega
              exact ⟨_, _, _, rfl, rfl, rfl, rfl, fun _ _ => run_store _ _ _ _ _ rfl, fun _ _ => run_store _ _ _ _ _ rfl, fun _ _ => run_store _ _ _ _ _ rfl⟩
            · obtain rfl : k = 4 := by omega
              exact ⟨_, _, _, rfl, rfl, rfl, rfl, fun _ _ => run_store _ _ _ _ _ rfl, fun _ _ => run_store _ _ _ _ _ rfl, fun _ _ => run_store _ _ _ _ _ rfl⟩
      · by_cases h7 : k < 7
        · by_cases h6 : k < 6
          · obtain rfl : k = 5 := by omega
            exact ⟨_, _, _, rfl, rfl, rfl, rfl, fun _ _ => run_store _ _ _ _ _ rfl, fun _ _ => run_store _ _ _ _ _ rfl, fun _ _ => run_store _ _ _ _ _ rfl⟩
          · obtain rfl : k = 6 := by omega
            exact ⟨_, _, _, rfl, rfl, rfl, rfl, fun _ _ => run_store _ _ _ _ _ rfl, fun _ _ => run_store _ _ _ _ _ rfl, fun _ _ => run_store _ _ _ _ _ rfl⟩
        · by_cases h8 : k < 8
          · obtain rfl : k = 7 := by omega
            exact ⟨_, _, _, rfl, rfl, rfl, rfl, fun _ _ => run_store _ _ _ _ _ rfl, fun _ _ => run_store _ _ _ _ _ rfl, fun _ _ => run_store _ _ _ _ _ rfl⟩
          · by_cases h9 : k < 9
            · obtain rfl : k = 8 := by omega
              exact ⟨_, _, _, rfl, rfl, rfl, rfl, fun _ _ => run_store _ _ _ _ _ rfl, fun _ _ => run_store _ _ _ _ _ rfl, fun _ _ => run_store _ _ _ _ _ rfl⟩
            · obtain rfl : k = 9 := by omega
              exact ⟨_, _, _, rfl, rfl, rfl, rfl, fun _ _ => run_store _ _ _ _ _ rfl, fun _ _ => run_store _ _ _ _ _ rfl, fun _ _ => run_store _ _ _ _ _ rfl⟩
    · by_cases h15 : k < 15
      · by_cases h12 : k < 12
        · by_cases h11 : k < 11
          · obtain rfl : k = 10 := by omega
            exact ⟨_, _, _, rfl, rfl, rfl, rfl, fun _ _ => run_store _ _ _ _ _ rfl, fun _ _ => run_store _ _ _ _ _ rfl, fun _ _ => run_store _ _ _ _ _ rfl⟩
          · obtain rfl : k = 11 := by omega
            exact ⟨_, _, _, rfl, rfl, rfl, rfl, fun _ _ => run_store _ _ _ _ _ rfl, fun _ _ => run_store _ _ _ _ _ rfl, fun _ _ => run_store _ _ _ _ _ rfl⟩
        · by_cases h13 : k < 13
          · obtain rfl : k = 12 := by omega
            exact ⟨_, _, _, rfl, rfl, rfl, rfl, fun _ _ => run_store _ _ _ _ _ rfl, fun _ _ => run_store _ _ _ _ _ rfl, fun _ _ => run_store _ _ _ _ _ rfl⟩
          · by_cases h14 : k < 14
            · obtain rfl : k = 13 := by omega
              exact ⟨_, _, _, rfl, rfl, rfl, rfl, fun _ _ => run_store _ _ _ _ _ rfl, fun _ _ => run_store _ _ _ _ _ rfl, fun _ _ => run_store _ _ _ _ _ rfl⟩
            · obtain rfl : k = 14 := by omega
              exact ⟨_, _, _, rfl, rfl, rfl, rfl, fun _ _ => run_store _ _ _ _ _ rfl, fun _ _ => run_store _ _ _ _ _ rfl, fun _ _ => run_store _ _ _ _ _ rfl⟩
      · by_cases h18 : k < 18
        · by_cases h16 : k < 16
          · obtain rfl : k = 15 := by omega
            exact ⟨_, _, _, rfl, rfl, rfl, rfl, fun _ _ => run_store _ _ _ _ _ rfl, fun _ _ => run_store _ _ _ _ _ rfl, fun _ _ => run_store _ _ _ _ _ rfl⟩
          · by_cases h17 : k < 17
            · obtain rfl : k = 16 := by omega
              exact ⟨_, _, _, rfl, rfl, rfl, rfl, fun _ _ => run_store _ _ _ _ _ rfl, fun _ _ => run_store _ _ _ _ _ rfl, fun _ _ => run_store _ _ _ _ _ rfl⟩
            · obtain rfl : k = 17 := by omega
              exact ⟨_, _, _, rfl, rfl, rfl, rfl, fun _ _ => run_store _ _ _ _ _ rfl, fun _ _ => run_store _ _ _ _ _ rfl, fun _ _ => run_store _ _ _ _ _ rfl⟩
        · by_cases h19 : k < 19
          · obtain rfl : k = 18 := by omega
            exact ⟨_, _, _, rfl, rfl, rfl, rfl, fun _ _ => run_store _ _ _ _ _ rfl, fun _ _ => run_store _ _ _ _ _ rfl, fun _ _ => run_store _ _ _ _ _ rfl⟩
          · by_cases h20 : k < 20
            · obtain rfl : k = 19 := by omega
              exact ⟨_, _, _, rfl, rfl, rfl, rfl, fun _ _ => run_store _ _ _ _ _ rfl, fun _ _ => run_store _ _ _ _ _ rfl, fun _ _ => run_store _ _ _ _ _ rfl⟩
            · obtain rfl : k = 20 := by omega
              exact ⟨_, _, _, rfl, rfl, rfl, rfl, fun _ _ => run_store _ _ _ _ _ rfl, fun _ _ => run_store _ _ _ _ _ rfl, fun _ _ => run_store _ _ _ _ _ rfl⟩
  · by_cases h32 : k < 32
    · by_cases h26 : k < 26
      · by_cases h23 : k < 23
        · by_cases h22 : k < 22
          · obtain rfl : k = 21 := by omega
            exact ⟨_, _, _, rfl, rfl, rfl, rfl, fun _ _ => run_store _ _ _ _ _ rfl, fun _ _ => run_store _ _ _ _ _ rfl, fun _ _ => run_store _ _ _ _ _ rfl⟩
          · obtain rfl : k = 22 := by omega
            exact ⟨_, _, _, rfl, rfl, rfl, rfl, fun _ _ => run_store _ _ _ _ _ rfl, fun _ _ => run_store _ _ _ _ _ rfl, fun _ _ => run_store _ _ _ _ _ rfl⟩
        · by_cases h24 : k < 24
          · obtain rfl : k = 23 := by omega
            exact ⟨_, _, _, rfl, rfl, rfl, rfl, fun _ _ => run_store _ _ _ _ _ rfl, fun _ _ => run_store _ _ _ _ _ rfl, fun _ _ => run_store _ _ _ _ _ rfl⟩
          · by_cases h25 : k < 25
            · obtain rfl : k = 24 := by omega
              exact ⟨_, _, _, rfl, rfl, rfl, rfl, fun _ _ => run_store _ _ _ _ _ rfl, fun _ _ => run_store _ _ _ _ _ rfl, fun _ _ => run_store _ _ _ _ _ rfl⟩
            · obtain rfl : k = 25 := by omega
              exact ⟨_, _, _, rfl, rfl, rfl, rfl, fun _ _ => run_store _ _ _ _ _ rfl, fun _ _ => run_store _ _ _ _ _ rfl, fun _ _ => run_store _ _ _ _ _ rfl⟩
      · by_cases h29 : k < 29
        · by_cases h27 : k < 27
          · obtain rfl : k = 26 := by omega
            exact ⟨_, _, _, rfl, rfl, rfl, rfl, fun _ _ => run_store _ _ _ _ _ rfl, fun _ _ => run_store _ _ _ _ _ rfl, fun _ _ => run_store _ _ _ _ _ rfl⟩
          · by_cases h28 : k < 28
            · obtain rfl : k = 27 := by omega
              exact ⟨_, _, _, rfl, rfl, rfl, rfl, fun _ _ => run_store _ _ _ _ _ rfl, fun _ _ => run_store _ _ _ _ _ rfl, fun _ _ => run_store _ _ _ _ _ rfl⟩
            · obtain rfl : k = 28 := by omega
              exact ⟨_, _, _, rfl, rfl, rfl, rfl, fun _ _ => run_store _ _ _ _ _ rfl, fun _ _ => run_store _ _ _ _ _ rfl, fun _ _ => run_store _ _ _ _ _ rfl⟩
        · by_cases h30 : k < 30
          · obtain rfl : k = 29 := by omega
            exact ⟨_, _, _, rfl, rfl, rfl, rfl, fun _ _ => run_store _ _ _ _ _ rfl, fun _ _ => run_store _ _ _ _ _ rfl, fun _ _ => run_store _ _ _ _ _ rfl⟩
          · by_cases h31 : k < 31
            · obtain rfl : k = 30 := by omega
              exact ⟨_, _, _, rfl, rfl, rfl, rfl, fun _ _ => run_store _ _ _ _ _ rfl, fun _ _ => run_store _ _ _ _ _ rfl, fun _ _ => run_store _ _ _ _ _ rfl⟩
            · obtain rfl : k = 31 := by omega
              exact ⟨_, _, _, rfl, rfl, rfl, rfl, fun _ _ => run_store _ _ _ _ _ rfl, fun _ _ => run_store _ _ _ _ _ rfl, fun _ _ => run_store _ _ _ _ _ rfl⟩
    · by_cases h37 : k < 37
      · by_cases h34 : k < 34
        · by_cases h33 : k < 33
          · obtain rfl : k = 32 := by omega
            exact ⟨_, _, _, rfl, rfl, rfl, rfl, fun _ _ => run_store _ _ _ _ _ rfl, fun _ _ => run_store _ _ _ _ _ rfl, fun _ _ => run_store _ _ _ _ _ rfl⟩
          · obtain rfl : k = 33 := by omega
            exact ⟨_, _, _, rfl, rfl, rfl, rfl, fun _ _ => run_store _ _ _ _ _ rfl, fun _ _ => run_store _ _ _ _ _ rfl, fun _ _ => run_store _ _ _ _ _ rfl⟩
        · by_cases h35 : k < 35
          · obtain rfl : k = 34 := by omega
            exact ⟨_, _, _, rfl, rfl, rfl, rfl, fun _ _ => run_store _ _ _ _ _ rfl, fun _ _ => run_store _ _ _ _ _ rfl, fun _ _ => run_store _ _ _ _ _ rfl⟩
          · by_cases h36 : k < 36
            · obtain rfl : k = 35 := by omega
              exact ⟨_, _, _, rfl, rfl, rfl, rfl, fun _ _ => run_store _ _ _ _ _ rfl, fun _ _ => run_store _ _ _ _ _ rfl, fun _ _ => run_store _ _ _ _ _ rfl⟩
            · obtain rfl : k = 36 := by omega
              exact ⟨_, _, _, rfl, rfl, rfl, rfl, fun _ _ => run_store _ _ _ _ _ rfl, fun _ _ => run_store _ _ _ _ _ rfl, fun _ _ => run_store _ _ _ _ _ rfl⟩
      · by_cases h40 : k < 40
        · by_cases h38 : k < 38
          · obtain rfl : k = 37 := by omega
            exact ⟨_, _, _, rfl, rfl, rfl, rfl, fun _ _ => run_store _ _ _ _ _ rfl, fun _ _ => run_store _ _ _ _ _ rfl, fun _ _ => run_store _ _ _ _ _ rfl⟩
          · by_cases h39 : k < 39
            · obtain rfl : k = 38 := by omega
              exact ⟨_, _, _, rfl, rfl, rfl, rfl, fun _ _ => run_store _ _ _ _ _ rfl, fun _ _ => run_store _ _ _ _ _ rfl, fun _ _ => run_store _ _ _ _ _ rfl⟩
            · obtain rfl : k = 39 := by omega
              exact ⟨_, _, _, rfl, rfl, rfl, rfl, fun _ _ => run_store _ _ _ _ _ rfl, fun _ _ => run_store _ _ _ _ _ rfl, fun _ _ => run_store _ _ _ _ _ rfl⟩
        · by_cases h41 : k < 41
          · obtain rfl : k = 40 := by omega
            exact ⟨_, _, _, rfl, rfl, rfl, rfl, fun _ _ => run_store _ _ _ _ _ rfl, fun _ _ => run_store _ _ _ _ _ rfl, fun _ _ => run_store _ _ _ _ _ rfl⟩
          · by_cases h42 : k < 42
            · obtain rfl : k = 41 := by omega
              exact ⟨_, _, _, rfl, rfl, rfl, rfl, fun _ _ => run_store _ _ _ _ _ rfl, fun _ _ => run_store _ _ _ _ _ rfl, fun _ _ => run_store _ _ _ _ _ rfl⟩
            · obtain rfl : k = 42 := by omega
              exact ⟨_, _, _, rfl, rfl, rfl, rfl, fun _ _ => run_store _ _ _ _ _ rfl, fun _ _ => run_store _ _ _ _ _ rfl, fun _ _ => run_store _ _ _ _ _ rfl⟩
set_option maxRecDepth 100000 in
set_option maxHeartbeats 3200000 in
theorem names_own {G : World → Prop} : NamesOK G 7 nmL := by
  intro w _
  obtain ⟨i0, hi, hz0, hz1, hz2⟩ := info_parts infoS
  have CO := hide (operators_any w)
  go_enter Tryz.func7, Tryz.ntmps7
  go_wp2_with fail
  refine (unhide CO).mono ?_
  rintro e w1 ⟨rfl, hO⟩
  have HO := hide hO
  have hn8 := blk_lt hO.row
  clear CO hO
  go_wp2
  go_loopw [1, 6] (fun v i wr => ∃ (k : Nat), k ≤ 43 ∧ i = .int .i64 (k : Int) ∧ OS wr w1.heap.size v (nmL.take k) ∧ Below w1.heap.size w1 wr) (fun _ i _ => 43 - (intOf i).toNat)
  case atStart => exact ⟨0, Nat.zero_le _, rfl, World.ownsRow_nil _ _ _ _, Below.refl _ _⟩
  case round =>
    obtain ⟨k, hk, rfl, hown, hbel⟩ := hrel
    by_cases hlt : k < 43
    · have hlt' : (k : Int) < 43 := by omega
      obtain ⟨x, y, z, r0, r1, r2, r3, s1, s2, s3⟩ := rows_all w.heap.size k hlt
      have hrow : wr.heap[w.heap.size + 8]? = _ := (hbel.block _ hn8).trans (unhide HO).row
      have c0 := (blk_cell hrow (k * 4)).trans r0
      have c1 := (blk_cell hrow (k * 4 + 1)).trans r1
      have c2 := (blk_cell hrow (k * 4 + 2)).trans r2
      have c3 := (blk_cell hrow (k * 4 + 3)).trans r3
      clear r0 r1 r2 r3 hrow
      unfold Sto at s1 s2 s3
      generalize hnm : nmL[k]'(by rw [nmL_len]; exact hlt) = b at *
      have htk : nmL.take (k + 1) = nmL.take k ++ [b] := by rw [List.take_succ_eq_append_getElem (by rw [nmL_len]; exact hlt), hnm]
      have hlen : (nmL.take k).length = k := by rw [List.length_take, nmL_len]; omega
      have HT := hide htk
      have HLn := hide hlen
      have hA : (⟨wr.heap.size + 1, 0, none⟩ : Addr) = ⟨wr.heap.size + 1, 0, none⟩ := rfl
      clear htk hnm hlen hA
      generalize nmL.take k = d at *
      unfold OS at hown
      go_wp2_with (at_builtin; refine wpList_append_own _ rfl _ _ 23 rfl w1.heap.size 9 i0 (.string ⟨#[]⟩) 1 16 Tryz.underlying23 hi hz0 hz1 hz2 rfl (by decide) _ _ _ rfl ((hown.alloc _).alloc _) ⟨wr.heap.size + 1, 0, none⟩ 1 1 [vs b] rfl rfl ?c1 ?c2 ?c3 ?c4 ?c5 ?_)
      case c1 =>
        intro i u hi
        match i, hi with
        | 0, hi => simp at hi; subst hi; simp [Addr.add, vs]
      case c2 => intro u hu; simp at hu; subst hu; rfl
      case c3 => unfold maxLen; have := unhide HLn; omega
      case c4 => have := unhide HLn; omega
      case c5 => have := hbel.size; simp; omega
      intro v' w2 hown2 hgrow2 _
      have hz := hbel.size
      have hbel2 := ((hbel.alloc hz _).alloc (by rw [World.size_alloc]; omega) _).grown hgrow2 (by simp; omega) (own_ge hown)
      have HB2 := hide hbel2
      have HO2 : Hid (OS w2 w1.heap.size v' (nmL.take (k + 1))) := by
        show OS _ _ _ _
        rw [unhide HT]
        show w2.ownsRow _ _ _ _ _ _
        simpa using hown2
      clear hown hown2 hgrow2 hbel2 HT HLn c0 c1 c2 c3 s1 s2 s3
      go_wp2
      go_roundw
      case rel => exact ⟨k + 1, by omega, by go_num, unhide HO2, unhide HB2⟩
      case measure => simp [intOf]; omega
    · have hlt' : ¬ (k : Int) < 43 := by omega
      have hk43 : k = 43 := by omega
      have ho : OS wr w1.heap.size u1 nmL := by
        have e : nmL.take k = nmL := List.take_of_length_le (by rw [nmL_len]; omega)
        rw [e] at hown; exact hown
      have hB : Below w.heap.size w w1 := (unhide HO).below
      have hz := hB.size
      clear hown hk43
      go_wp2
      go_ret
      exact ⟨_, rfl, ho.mono hz, hB.trans (hbel.mono hz)⟩
end Go.Proofs.YthpnclhfooileaaGreatDoor.ru
