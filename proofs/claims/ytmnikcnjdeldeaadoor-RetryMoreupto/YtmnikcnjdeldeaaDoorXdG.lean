/- Several texts in one. -/
import Derived.Test.YtmnikcnjdeldeaaDoorMrG
/- The laws' head: awake. -/
namespace Go.Proofs.YtmnikcnjdeldeaaDoor.rt
open Go.RowKit Go.Joins mm

theorem one_ss {w : World} {g : Nat} {t : TypeId} (s : ByteArray) (h : w.heap[g]? = some (.cells #[.string s] t)) : SS w (.slice (some ⟨g, 0, none⟩) 1 1) [s] :=
  sv_cells h 1 1 rfl (by unfold maxLen; decide)
def okA (n : Nat) : Obj := .cells #[.slice (some ⟨n, 0, none⟩) 1 1, .int .i64 2, .int .i64 2, .bool false, .string ⟨#[49, 53]⟩, .int .i64 (-1), .int .i64 0] 49
theorem ex_rl (w : World) : RL ((w.alloc (.cells #[.string sA] 9)).alloc (okA w.heap.size)) (.slice (some ⟨w.heap.size + 1, 0, none⟩) 1 1) [exR] := by
  have h0 : ((w.alloc (.cells #[.string sA] 9)).alloc (okA w.heap.size)).heap[w.heap.size]? = some (.cells #[.string sA] 9) := by
    rw [Below.heap_alloc _ _ _ (by rw [World.size_alloc]; omega)]; exact heap_alloc_new w _
  have h1 : ((w.alloc (.cells #[.string sA] 9)).alloc (okA w.heap.size)).heap[w.heap.size + 1]? = some (okA w.heap.size) := by
    have := heap_alloc_new (w.alloc (.cells #[.string sA] 9)) (okA w.heap.size)
    rwa [World.size_alloc] at this
  refine ⟨some ⟨w.heap.size + 1, 0, none⟩, 1, rfl, Nat.le_refl _, by unfold maxLen; decide, (fun q => by cases q), fun a ha j r hr => ?_⟩
  cases ha
  match j, hr with
  | 0, hr =>
    cases hr
    have e : ∀ k, ((w.alloc (.cells #[.string sA] 9)).alloc (okA w.heap.size)).cell? ⟨w.heap.size + 1, k, none⟩ = (#[Value.slice (some ⟨w.heap.size, 0, none⟩) 1 1, .int .i64 2, .int .i64 2, .bool false, .string ⟨#[49, 53]⟩, .int .i64 (-1), .int .i64 0] : Array Value)[k]? := fun k => blk_cell h1 k
    exact ⟨⟨_, e 0, one_ss sA h0⟩, e 1, e 2, e 3, e 4, e 5, e 6⟩
theorem ex_is (w : World) : IS (w.alloc (.cells #[.int .i64 1] 3)) (.slice (some ⟨w.heap.size, 0, none⟩) 1 1) [1] :=
  sv_cells (heap_alloc_new w _) 1 1 rfl (by unfold maxLen; decide)
theorem ex_rty (dl : Rtr → Int → Int) (h : dl exR 2 = 3) : rty dl [exR] [1] sA = (0, 3, true) := by
  have : fnd [exR] sA = some 0 := by decide +kernel
  unfold rty
  rw [this]
  show (if exR.most ≤ tms [1] 0 then (0, 0, false) else (((0 : Nat) : Int), dl exR (tms [1] 0 + 1), true)) = _
  have e : tms [1] 0 = 1 := rfl
  rw [e, if_neg (by decide)]
  show (((0 : Nat) : Int), dl exR 2, true) = _
  rw [h]; rfl

def exC (s : ByteArray) : Ctr := ⟨[s], false, false, false, none, 0, 0, .empty⟩
def okB (n : Nat) : Obj := .cells #[.slice (some ⟨n, 0, none⟩) 1 1, .bool false, .bool false, .bool false, .slice none 0 0, .string .empty, .slice (some ⟨n + 1, 0, none⟩) 1 1, .bool false, .bool false, .bool false, .slice none 0 0, .string .empty] 37
theorem ex_cl (w : World) : CL (((w.alloc (.cells #[.string sB] 9)).alloc (.cells #[.string sAll] 9)).alloc (okB w.heap.size)) (.slice (some ⟨w.heap.size + 1 + 1, 0, none⟩) 2 2) [exC sB, exC sAll] := by
  have s1 : (w.alloc (.cells #[.string sB] 9)).heap.size = w.heap.size + 1 := World.size_alloc _ _
  have s2 : ((w.alloc (.cells #[.string sB] 9)).alloc (.cells #[.string sAll] 9)).heap.size = w.heap.size + 1 + 1 := by rw [World.size_alloc, s1]
  have h0 : (((w.alloc (.cells #[.string sB] 9)).alloc (.cells #[.string sAll] 9)).alloc (okB w.heap.size)).heap[w.heap.size]? = some (.cells #[.string sB] 9) := by
    rw [Below.heap_alloc _ _ _ (by omega), Below.heap_alloc _ _ _ (by omega)]; exact heap_alloc_new w _
  have h1 : (((w.alloc (.cells #[.string sB] 9)).alloc (.cells #[.string sAll] 9)).alloc (okB w.heap.size)).heap[w.heap.size + 1]? = some (.cells #[.string sAll] 9) := by
    rw [Below.heap_alloc _ _ _ (by omega)]
    have := heap_alloc_new (w.alloc (.cells #[.string sB] 9)) (.cells #[.string sAll] 9)
    rwa [s1] at this
  have h2 : (((w.alloc (.cells #[.string sB] 9)).alloc (.cells #[.string sAll] 9)).alloc (okB w.heap.size)).heap[w.heap.size + 1 + 1]? = some (okB w.heap.size) := by
    have := heap_alloc_new ((w.alloc (.cells #[.string sB] 9)).alloc (.cells #[.string sAll] 9)) (okB w.heap.size)
    rwa [s2] at this
  generalize (((w.alloc (.cells #[.string sB] 9)).alloc (.cells #[.string sAll] 9)).alloc (okB w.heap.size)) = w3 at *
  refine ⟨some ⟨w.heap.size + 1 + 1, 0, none⟩, 2, rfl, Nat.le_refl _, by unfold maxLen; decide, (fun q => by cases q), fun a ha j r hr => ?_⟩
  cases ha
  have e : ∀ k, w3.cell? ⟨w.heap.size + 1 + 1, k, none⟩ = (#[Value.slice (some ⟨w.heap.size, 0, none⟩) 1 1, .bool false, .bool false, .bool false, .slice none 0 0, .string .empty, .slice (some ⟨w.heap.size + 1, 0, none⟩) 1 1, .bool false, .bool false, .bool false, .slice none 0 0, .string .empty] : Array Value)[k]? := fun k => blk_cell h2 k
  match j, hr with
  | 0, hr => cases hr; exact ⟨⟨_, e 0, one_ss sB h0⟩, e 1, e 2, e 3, e 4, e 5⟩
  | 1, hr => cases hr; exact ⟨⟨_, e 6, one_ss sAll h1⟩, e 7, e 8, e 9, e 10, e 11⟩
theorem ex_cat : cat [exC sB, exC sAll] sA = (1, true) := by
  have : ctc [exC sB, exC sAll] sA = some 1 := by decide +kernel
  unfold cat
  rw [this]; rfl

set_option maxRecDepth 100000 in
set_option maxHeartbeats 1600000 in
theorem awake_any {G : World → Prop} {dl : Rtr → Int → Int} (K : RetryOK G dl) (w : World) (hG : G w) :
    Calls Tryd.prog 8 #[] w fun e w' => e = .returned (.bool true) ∧ Below w.heap.size w w' := by
  have HK := hide K
  have HG := hide hG
  have R1 := hide (ex_rl w)
  have B1 := hide ((Below.refl w.heap.size w).alloc (Nat.le_refl _) (.cells #[.string sA] 9))
  have B2 := hide ((unhide B1).alloc (unhide B1).size (okA w.heap.size))
  have B3 := hide ((unhide B2).alloc (unhide B2).size (.cells #[.int .i64 1] 3))
  have I3 := hide (ex_is ((w.alloc (.cells #[.string sA] 9)).alloc (okA w.heap.size)))
  have C3 := hide ((unhide HK).retry [exR] [1] sA _ _ _ ((unhide HK).keep _ _ (unhide HG) (unhide B3)) ((unhide R1).keep ((Below.refl _ _).alloc (Nat.le_refl _) (.cells #[.int .i64 1] 3))) (unhide I3)
    (fun r hr => by rw [List.mem_singleton.mp hr]; unfold Okr exR; decide) (fun n hn => by rw [List.mem_singleton.mp hn]; unfold Oki; decide) (by decide))
  rw [ex_rty dl K.ex] at C3
  unfold okA sA at C3
  rw [World.size_alloc, World.size_alloc] at C3
  clear K hG
  go_enter Tryd.func8, Tryd.ntmps8
  go_wp2_with fail
  refine (unhide C3).mono ?_
  rintro e w4 ⟨rfl, b4⟩
  have B4 := hide ((unhide B3).trans (b4.mono (unhide B3).size))
  clear C3 b4 R1 B1 B2 B3 I3
  have B5 := hide ((unhide B4).alloc (unhide B4).size (.cells #[.string sB] 9))
  have B6 := hide ((unhide B5).alloc (unhide B5).size (.cells #[.string sAll] 9))
  have B7 := hide ((unhide B6).alloc (unhide B6).size (okB w4.heap.size))
  have C7 := hide ((unhide HK).catch_ [exC sB, exC sAll] sA _ _ ((unhide HK).keep _ _ (unhide HG) (unhide B7)) (ex_cl w4) (by decide))
  rw [ex_cat] at C7
  unfold okB sA sB sAll at C7
  go_wp2_with fail
  refine (unhide C7).mono ?_
  rintro e w8 ⟨rfl, b8⟩
  have B8 := hide ((unhide B7).trans (b8.mono (unhide B7).size))
  clear C7 b8 B4 B5 B6 B7
  go_wp2
  go_ret
  exact ⟨rfl, unhide B8⟩
end Go.Proofs.YtmnikcnjdeldeaaDoor.rt

/- RetryMatches, over the calls' contracts. -/
namespace Go.Proofs.YtmnikcnjdeldeaaDoor.rt
open Go.RowKit Go.Joins mm

theorem OS.head {w : World} {B g c n : Nat} {l m : List ByteArray} (h : OS w B (.slice (some ⟨g, 0, none⟩) n c) (l ++ m)) (hn : n = l.length + m.length) : SS w (.slice (some ⟨g, 0, none⟩) l.length c) l := by
  subst hn
  unfold OS at h
  rw [List.length_append] at h
  have := row_take h l.length (by omega)
  have e : ((l ++ m).map Value.string).take (l.length * 1) = l.map .string := by rw [List.map_append, Nat.mul_one, List.take_append_of_le_length (by simp), List.take_of_length_le (by simp)]
  rw [e] at this
  exact own_sv this

set_option maxRecDepth 100000 in
set_option maxHeartbeats 1600000 in
theorem matches_law {G : World → Prop} {dl : Rtr → Int → Int} (K : RetryOK G dl) (l : List ByteArray) (name : ByteArray) (v : Value) (w : World) (hG : G w) (h : SS w v l) (hl : l.length ≤ 1000000000000) :
    Calls Tryd.prog 3 #[v, .string name] w fun e w' => e = .returned (.bool true) ∧ Below w.heap.size w w' := by
  have HK := hide K
  have HG := hide hG
  have H := hide h
  obtain ⟨oa, c, rfl, h1, h2⟩ := SV.form h
  clear h K hG
  have C1 := hide (awake_any (unhide HK) w (unhide HG))
  go_enter Tryd.func3, Tryd.ntmps3
  go_wp2_with fail
  refine (unhide C1).mono ?_
  rintro e w1 ⟨rfl, b1⟩
  have B1 := hide b1
  clear C1 b1
  have C2 := hide (texts_any l _ w1 ((unhide H).keep (unhide B1)) (by omega))
  go_wp2_with fail
  refine (unhide C2).mono ?_
  rintro e w2 ⟨⟨g, cg, rfl, hg1, hg2, o2⟩, b2⟩
  have B2 := hide ((unhide B1).trans (b2.mono (unhide B1).size))
  have O2 := hide o2
  clear C2 b2 o2 B1
  have S2 := hide ((unhide O2).head rfl)
  have C3 := hide ((unhide HK).matches_ l name _ w2 ((unhide HK).keep _ _ (unhide HG) (unhide B2)) (unhide S2) hl)
  go_wp2_with fail
  refine (unhide C3).mono ?_
  rintro e w3 ⟨rfl, b3⟩
  have B3 := hide ((unhide B2).trans (b3.mono (unhide B2).size))
  have O3 := hide (row_mono (row_below (unhide O2) b3 (Nat.le_refl _)) (Nat.zero_le _))
  clear C3 b3 B2 S2 O2
  have C4 := hide (kept_any l g cg _ w3 (unhide O3) ((unhide H).keep (unhide B3)) hg2)
  generalize hm : mat l name = m at *
  have HM := hide hm
  clear hm
  go_wp2_with fail
  refine (unhide C4).mono ?_
  rintro e w4 ⟨rfl, n4, hw4⟩
  have B4 : Hid (Below w.heap.size w w4) := by rw [hw4]; exact (unhide B3).trans (mm.below_drewN _ _ _)
  clear C4 hw4 B3 O3
  have C5 := hide (rmatches_any l name _ w4 ((unhide H).keep (unhide B4)))
  rw [unhide HM] at C5
  go_wp2_with fail
  refine (unhide C5).mono ?_
  rintro e w5 ⟨rfl, rfl⟩
  clear C5
  have hmm : (m == m) = true := by cases m <;> rfl
  go_wp2
  go_ret
  exact ⟨rfl, unhide B4⟩

end Go.Proofs.YtmnikcnjdeldeaaDoor.rt

/- The reference's Charge; the laws' same. -/
namespace Go.Proofs.YtmnikcnjdeldeaaDoor.rt
open Go.RowKit Go.Joins mm

def slen : Value → Nat
  | .slice _ n _ => n
  | _ => 0
theorem one_int (l : List Int) : ∀ u ∈ l.map (Value.int .i64 ·), u.oneCell' = true := fun u hu => by
  obtain ⟨x, _, rfl⟩ := List.mem_map.mp hu
  rfl
theorem oi_append {w : World} {B : Nat} {v : Value} {l m : List Int} (h : w.ownsRow B 3 1 v (l.length + m.length) (l.map (Value.int .i64 ·) ++ m.map (Value.int .i64 ·))) : OI w B v (l ++ m) := by
  unfold OI
  rw [List.length_append, List.map_append]
  exact h
theorem OI.form {w : World} {B : Nat} {v : Value} {l : List Int} (h : OI w B v l) : ∃ oa c, v = .slice oa l.length c ∧ l.length ≤ c ∧ c ≤ maxLen := SV.form h.is
theorem OI.get {w : World} {B : Nat} {v : Value} {l : List Int} (h : OI w B v l) (hl : 0 < l.length) : ∃ g c, v = .slice (some ⟨g, 0, none⟩) l.length c ∧ l.length ≤ c ∧ c ≤ maxLen ∧ B ≤ g ∧ g < w.heap.size ∧ ∀ (j : Nat) (u : Int), l[j]? = some u → w.cell? ⟨g, j, none⟩ = some (.int .i64 u) := by
  have hs := h.is
  obtain ⟨_, ⟨rfl, h0⟩ | ⟨g, cap, cur, rfl, hb, hg, hc, hm, _⟩⟩ := h
  · omega
  · refine ⟨g, cap, rfl, hc, hm, hb, blk_lt hg, fun j u hu => ?_⟩
    obtain ⟨a, c, e, _, _, hx⟩ := hs.at hl
    cases e
    have := hx j u hu
    rwa [add0] at this
theorem OI.set {w : World} {B g n c : Nat} {l : List Int} (h : OI w B (.slice (some ⟨g, 0, none⟩) n c) l) (j : Nat) (x : Int) : OI (w.setCell ⟨g, j, none⟩ (.int .i64 x)) B (.slice (some ⟨g, 0, none⟩) n c) (l.set j x) := by
  unfold OI at h ⊢
  rw [List.length_set, List.map_set]
  exact row_set h j _

theorem chg_neg (ch : List Int) (p : Int) (h : p < 0) : chg ch p = ch := by unfold chg; rw [if_pos (Or.inl h)]
theorem chg_far (ch : List Int) (p : Int) (h : 65535 < p) (h2 : (ch.length : Int) ≤ p) : chg ch p = ch := by unfold chg; rw [if_pos (Or.inr ⟨h, h2⟩)]
theorem chg_in (ch : List Int) (k : Nat) (h : ¬ (65535 < (k : Int) ∧ (ch.length : Int) ≤ (k : Int))) (l : List Int) (hl : l = ch ++ List.replicate (k + 1 - ch.length) 0) (n : Int) (hn : l[k]? = some n) : chg ch k = l.set k (up1 n) := by
  unfold chg
  rw [if_neg (by omega)]
  simp only [Int.toNat_natCast]
  rw [← hl, hn]
  rfl

theorem rep_succ (ch : List Int) (j : Nat) : ch ++ List.replicate (j + 1) 0 = (ch ++ List.replicate j 0) ++ [0] := by
  rw [List.replicate_succ', List.append_assoc]

set_option maxRecDepth 100000 in
set_option maxHeartbeats 1600000 in
theorem rcharge_any (ch : List Int) (p : Int) (v : Value) (w : World) (h : IS w v ch) (hn : ∀ n ∈ ch, Oki n) (hp : Oki p) (hl : ch.length ≤ 1000000000000) :
    Calls Tryd.prog 14 #[v, .int .i64 p] w fun e w' => ∃ v, e = .returned v ∧ OI w' w.heap.size v (chg ch p) ∧ Below w.heap.size w w' := by
  have H := hide h
  obtain ⟨oa, c, rfl, h1, h2⟩ := SV.form h
  have HN := hide hn
  obtain ⟨hp1, hp2⟩ := hp
  clear h hn
  generalize hr : chg ch p = res
  have HR := hide hr
  clear hr
  go_enter Tryd.func14, Tryd.ntmps14
  go_wp2_with (at_builtin; refine wpList_append_sv (P := Tryd.prog) rfl _ _ 27 rfl w.heap.size 3 _ 1 8 undI infoInt rfl (by decide) _ _ 0 ch.length [] (ch.map (Value.int .i64 ·)) rfl rfl (World.ownsRow_nil _ _ _ _) (unhide H) (one_int ch) ?a1 ?a2 (Nat.le_refl _) ?_)
  case a1 => unfold maxLen; omega
  case a2 => omega
  intro v1 w1 o1 g1 _
  have B1 : Hid (Below w.heap.size w w1) := (Below.refl _ _).grown g1 (Nat.le_refl _) (fun k hk => by cases hk)
  have O1 : Hid (OI w1 w.heap.size v1 ch) := o1
  clear o1 g1 H
  by_cases q1 : p < 0
  · have HS := hide (chg_neg ch p q1)
    go_wp2
    go_ret
    refine ⟨v1, rfl, ?_, unhide B1⟩
    rw [← unhide HR, unhide HS]; exact unhide O1
  · have q1' : 0 ≤ p := by omega
    by_cases q2 : 65535 < p ∧ (ch.length : Int) ≤ p
    · obtain ⟨q2, q3⟩ := q2
      have HS := hide (chg_far ch p q2 q3)
      have e1 : decide (p < 0) = false := decide_eq_false q1
      go_wp2
      go_ret
      refine ⟨v1, rfl, ?_, unhide B1⟩
      rw [← unhide HR, unhide HS]; exact unhide O1
    · obtain ⟨k, rfl⟩ : ∃ k : Nat, p = (k : Int) := ⟨p.toNat, by omega⟩
      have HI := hide (chg_in ch k q2)
      have hkb : k ≤ 1000000000000 := by omega
      have e1 : decide ((k : Int) < 0) = false := decide_eq_false q1
      have hkc : ¬ (65535 < (k : Int)) ∨ (65535 < (k : Int) ∧ ¬ ((ch.length : Int) ≤ (k : Int))) := by omega
      clear q1 q1' q2
      rcases hkc with q | ⟨q, q'⟩
      all_goals
        first
          | (have e2 : decide ((65535 : Int) < (k : Int)) = false := decide_eq_false q)
          | skip
        first
          | (have e3 : decide ((ch.length : Int) ≤ (k : Int)) = false := decide_eq_false q')
          | skip
        go_wp2
        go_loopw [5] (fun ov wr => ∃ j : Nat, j ≤ k + 1 - ch.length ∧ slen ov = ch.length + j ∧ Hid (OI wr w.heap.size ov (ch ++ List.replicate j 0)) ∧ Hid (Below w.heap.size w wr)) (fun ov _ => k + 1 - slen ov)
        case atStart => exact ⟨0, by omega, by obtain ⟨_, _, e, _⟩ := (unhide O1).form; rw [e]; rfl, by show OI _ _ _ _; simpa using unhide O1, unhide B1⟩
        case round =>
          obtain ⟨j, hj, hsl, hO, hB⟩ := hrel
          obtain ⟨oa', c', hov, hc1, hc2⟩ := (unhide hO).form
          have hlen : (ch ++ List.replicate j 0 : List Int).length = ch.length + j := by simp
          rw [hlen] at hov hc1
          subst hov
          have HS2 := hide (rep_succ ch j)
          have HI2 : Hid (k + 1 - ch.length = j → ∀ n, (ch ++ List.replicate j 0 : List Int)[k]? = some n → res = (ch ++ List.replicate j 0 : List Int).set k (up1 n)) := fun e n hn => by rw [← unhide HR]; exact unhide HI _ (by rw [e]) n hn
          have HN2 : Hid (∀ n ∈ (ch ++ List.replicate j 0 : List Int), Oki n) := fun n hn => by
            rcases List.mem_append.mp hn with q | q
            · exact unhide HN n q
            · rw [List.eq_of_mem_replicate q]; exact ⟨by decide, by decide⟩
          generalize (ch ++ List.replicate j 0 : List Int) = L at *
          have HLen := hide hlen
          clear hsl HR HI HN hlen
          have ecast : ((ch.length + j : Nat) : Int) = (ch.length : Int) + (j : Int) := by omega
          by_cases hlt : ch.length + j ≤ k
          · by_cases hz : (ch.length : Int) ≤ (k : Int)
            case neg => exfalso; omega
            first
              | (exfalso; exact absurd hz (of_decide_eq_false e3))
              | (
                have e4 : (ch.length : Int) + (j : Int) ≤ (k : Int) := by omega
                have n2 := hide (sv_cells (heap_alloc_new wr (.cells #[.int .i64 0] 3)) 1 1 rfl (by unfold maxLen; decide))
                have O2 := hide (row_below (unhide hO) ((Below.refl wr.heap.size wr).alloc (Nat.le_refl _) (.cells #[.int .i64 0] 3)) (Nat.le_refl _))
                have B2 := hide ((unhide hB).alloc (unhide hB).size (.cells #[.int .i64 0] 3))
                rw [unhide HLen] at O2
                clear hO hB O1 B1 HI2
                go_wp2_with (at_builtin; refine wpList_append_sv (P := Tryd.prog) rfl _ _ 27 rfl w.heap.size 3 _ 1 8 undI infoInt rfl (by decide) _ _ (ch.length + j) 1 _ [.int .i64 0] rfl rfl (unhide O2) (unhide n2) ?b1 ?b2 ?b3 (unhide B2).size ?_)
                try case b1 => rfl
                try case b2 => unfold maxLen; omega
                try case b3 => omega
                intro v3 w3 o3 g3 _
                have B3 := hide (row_bl (unhide O2) g3 (unhide B2) (Nat.le_refl _) (unhide B2).size)
                have O3 : Hid (OI w3 w.heap.size v3 (ch ++ List.replicate (j + 1) 0)) := by
                  rw [unhide HS2]
                  exact oi_append (m := [0]) (by rw [unhide HLen]; exact o3)
                obtain ⟨oa3, c3, hv3, _⟩ := SV.form (own_sv o3)
                clear o3 g3 O2 B2 n2
                go_wp2
                refine ⟨⟨j + 1, by omega, by rw [hv3]; simp [slen]; omega, O3, B3⟩, ?_⟩
                rw [hv3]; simp [slen]; omega)
          · have e4 : decide ((ch.length : Int) + (j : Int) ≤ (k : Int)) = false := decide_eq_false (by omega)
            obtain ⟨n, hn⟩ : ∃ n, L[k]? = some n := ⟨L[k]'(by rw [unhide HLen]; omega), List.getElem?_eq_getElem _⟩
            obtain ⟨g, c'', e, _, _, hgB, hgl, hcell⟩ := (unhide hO).get (by rw [unhide HLen]; omega)
            rw [unhide HLen] at e
            cases e
            have hck := hcell k n hn
            have hfz := row_frz (unhide hO) k
            have HRes := hide (unhide HI2 (by omega) n hn)
            have hon := unhide HN2 n (List.mem_of_getElem? hn)
            obtain ⟨on1, on2⟩ := hon
            have e5 : (k : Int) < (ch.length : Int) + (j : Int) := by omega
            clear hcell hn HI2 HN2 HS2 hlt e4 O1 B1
            have e6 : decide ((ch.length : Int) + (j : Int) ≤ (k : Int)) = false := decide_eq_false (by omega)
            by_cases u1 : n < 0
            · have hu := hide (show up1 n = 1 by unfold up1; rw [if_pos u1])
              go_wp2
              go_ret
              refine ⟨_, rfl, ?_, (unhide hB).setCell (p := ⟨g, k, none⟩) hgB _⟩
              rw [unhide HRes, unhide hu]
              exact OI.set (unhide hO) k 1
            · have u1' : decide (n < 0) = false := decide_eq_false u1
              by_cases u2 : n < 9223372036854775807
              · have hu := hide (show up1 n = n + 1 by unfold up1; rw [if_neg u1, if_pos u2])
                go_wp2
                go_ret
                refine ⟨_, rfl, ?_, (unhide hB).setCell (p := ⟨g, k, none⟩) hgB _⟩
                rw [unhide HRes, unhide hu]
                exact OI.set (unhide hO) k (n + 1)
              · have hu := hide (show up1 n = n by unfold up1; rw [if_neg u1, if_neg u2])
                have u2' : decide (n < 9223372036854775807) = false := decide_eq_false u2
                go_wp2
                go_ret
                refine ⟨_, rfl, ?_, (unhide hB).setCell (p := ⟨g, k, none⟩) hgB _⟩
                rw [unhide HRes, unhide hu]
                exact OI.set (unhide hO) k n
end Go.Proofs.YtmnikcnjdeldeaaDoor.rt

/- RetryCharges, over the calls' contracts. -/
namespace Go.Proofs.YtmnikcnjdeldeaaDoor.rt
open Go.RowKit Go.Joins mm

set_option maxRecDepth 100000 in
set_option maxHeartbeats 1600000 in
theorem same_any (l : List Int) (v u : Value) (w : World) (h : IS w v l) (k : IS w u l) :
    Calls Tryd.prog 15 #[v, u] w fun e w' => e = .returned (.bool true) ∧ ∃ n, w' = w.drewN n := by
  have H := hide h
  have K := hide k
  obtain ⟨oa, c, rfl, h1, h2⟩ := SV.form h
  obtain ⟨ob, d, rfl, k1, k2⟩ := SV.form k
  clear h k
  have hb : ((l.length : Int) != (l.length : Int)) = false := by rw [bne_eq_false_iff_eq]
  go_enter Tryd.func15, Tryd.ntmps15
  go_wp2
  go_loopw [5] (fun iv wr => ∃ k : Nat, k ≤ l.length ∧ iv = .int .i64 (k : Int) ∧ ∃ n, wr = w.drewN n) (fun iv _ => l.length - (intOf iv).toNat)
  case atStart => exact ⟨0, by omega, rfl, 0, rfl⟩
  case round =>
    obtain ⟨k, hk, rfl, n, hw⟩ := hrel
    by_cases hc' : k < l.length
    · have e1 : (k : Int) < (l.length : Int) := by omega
      obtain ⟨a, c3, e, _, _, hcell⟩ := (unhide H).at (by omega)
      cases e
      obtain ⟨a2, c4, e, _, _, hcell2⟩ := (unhide K).at (by omega)
      cases e
      obtain ⟨u, hu⟩ : ∃ u, l[k]? = some u := ⟨l[k], List.getElem?_eq_getElem hc'⟩
      have d1 : wr.cell? (a.add k) = some (.int .i64 u) := by rw [hw]; exact hcell k u hu
      have d2 : wr.cell? (a2.add k) = some (.int .i64 u) := by rw [hw]; exact hcell2 k u hu
      have e2 : (k : Int) < 9223372036854775807 := by unfold maxLen at h2; omega
      have e3 : (u != u) = false := by rw [bne_eq_false_iff_eq]
      have HW := hide hw
      clear hcell hcell2 hu hw H K
      go_wp2
      go_quiet (fail)
      go_wp2
      exact ⟨⟨k + 1, by omega, by go_num, n + nq, by rw [unhide HW, World.drewN_drewN]⟩, by simp [intOf]; omega⟩
    · obtain rfl : k = l.length := by omega
      have HW := hide hw
      clear hw H K
      go_wp2
      go_ret
      exact ⟨rfl, n, unhide HW⟩

theorem OI.head {w : World} {B g c n : Nat} {l m : List Int} (h : OI w B (.slice (some ⟨g, 0, none⟩) n c) (l ++ m)) (hn : n = l.length + m.length) : OI w B (.slice (some ⟨g, 0, none⟩) l.length c) l := by
  subst hn
  unfold OI at h
  rw [List.length_append] at h
  have := row_take h l.length (by omega)
  have e : ((l ++ m).map (Value.int .i64 ·)).take (l.length * 1) = l.map (Value.int .i64 ·) := by rw [List.map_append, Nat.mul_one, List.take_append_of_le_length (by simp), List.take_of_length_le (by simp)]
  rw [e] at this
  exact this
theorem chg_ok (ch : List Int) (p : Int) (h : ∀ n ∈ ch, Oki n) : ∀ n ∈ chg ch p, Oki n := by
  have hu : ∀ n, Oki n → Oki (up1 n) := fun n ⟨h1, h2⟩ => by
    unfold up1 Oki
    split
    · omega
    · split <;> omega
  unfold chg
  split
  · exact h
  · have hall : ∀ n ∈ ch ++ List.replicate (p.toNat + 1 - ch.length) 0, Oki n := fun n hn => by
      rcases List.mem_append.mp hn with q | q
      · exact h n q
      · rw [List.eq_of_mem_replicate q]; exact ⟨by decide, by decide⟩
    intro n hn
    rcases List.mem_or_eq_of_mem_set hn with q | q
    · exact hall n q
    · rw [q]
      apply hu
      cases e : (ch ++ List.replicate (p.toNat + 1 - ch.length) 0)[p.toNat]? with
      | none => exact ⟨by decide, by decide⟩
      | some x => exact hall x (List.mem_of_getElem? e)
theorem chg_len (ch : List Int) (p : Int) : (chg ch p).length ≤ ch.length + 65536 := by
  unfold chg
  split
  · omega
  · simp only [List.length_set, List.length_append, List.length_replicate]
    omega
end Go.Proofs.YtmnikcnjdeldeaaDoor.rt
