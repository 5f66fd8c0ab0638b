/- The reference's disk: Append. -/
import Derived.Test.YtbcclolhfogpnaaDoorYm
import Derived.Deep.RegionLaw
import Derived.Deep.AppendLies
namespace Go.Proofs.YtbcclolhfogpnaaDoor.dk
open Go.RowKit mm

/-- What the append of one byte leaves. -/
structure Got (wr w1 : World) (v : Value) (g n cap : Nat) (l : List UInt8) : Prop where
  own : OY w1 0 (.slice (some ⟨g, 0, none⟩) n cap) l
  os : w1.os = wr.os
  tape : w1.tape = wr.tape
  output : w1.output = wr.output
  size : wr.heap.size ≤ w1.heap.size
  block : ∀ k, k < wr.heap.size → v.ownBlock ≠ some k → w1.heap[k]? = wr.heap[k]?
  lies : v.ownBlock = some g ∨ wr.heap.size ≤ g
theorem step_one {ops : Array Oper} {op : Oper} {a : Act} {K : Act → World → Prop} {Q : Exit → Act → World → Prop} {E0 : Prop} (wr W : World) (v : Value) (l : List UInt8) (c : UInt8) (S X : Operand) (hgd : op.guard = none)
    (ho : op.op = .call { callee := .builtin .append, args := #[S, X], argTypes := #[27, 27] }) (hs : a.eval S = v) (hx : a.eval X = .slice (some ⟨wr.heap.size, 0, none⟩) 1 1)
    (hown : Hid (OY wr 0 v l)) (hn : Hid (l.length + 1 ≤ 70000000000001)) (hW : Hid (Below wr.heap.size wr W)) (hz : W.heap.size = wr.heap.size + 1) (hnews : Hid (W.heap[wr.heap.size]? = some (.cells #[vb c] 5 (0, 0))))
    (h : ∀ g' n' cap' w1, Hid (Got wr w1 v g' n' cap' (l ++ [c])) → K (a.put op.dst (.slice (some ⟨g', 0, none⟩) n' cap')) w1) :
    if Region.wanted op (yielded ops a.tmps) = true then Oper.wp Tryd.prog op a W K Q else E0 := by
  obtain ⟨i0, hi, hz0, hz1, hz2⟩ := info_parts infoU
  have hB := unhide hW
  have hN := unhide hn
  have ownW : OY W 0 v l := row_below (unhide hown) hB (Nat.le_refl _)
  refine step_append_lies _ hgd _ _ _ ho 0 5 i0 (.int .u8 0) 1 1 Tryd.underlying27 hi hz0 hz1 hz2 rfl (by omega) v l.length (l.map vb) hs ownW
    ⟨wr.heap.size, 0, none⟩ 1 1 [vb c] hx rfl (fun j u hu => ?_) (fun u hu => ?_) (by omega) (by unfold maxLen; omega) (by omega) (by omega) (wr.heap.size + 1) hz ?_
  · rw [add0, blk_cell (unhide hnews)]
    simpa using hu
  · obtain rfl := List.mem_singleton.mp hu
    rfl
  · intro g' cap' w1 ho1 hg hat hlt
    refine h g' (l.length + 1) cap' w1 ⟨?_, hg.os.trans hB.os, hg.tape.trans hB.tape, hg.output.trans hB.output, Nat.le_trans hB.size hg.size, fun k hk hne => (hg.block k (by omega) (fun q => hne q.symm)).trans (hB.block k hk), hat.imp id (fun e => by omega)⟩
    exact oy_append (m := [c]) ho1

/-- What Append's loop keeps. -/
def AP (w : World) (F : Bl) (g : Nat) (f0 l : List UInt8) (n : Int) (b : Bool) (m : Int) (k : Nat) (wr : World) : Prop :=
  ∃ vk, R4 wr g vk n b m ∧ OY wr 0 vk (f0 ++ l.take k) ∧ vk.ownBlock ≠ some g ∧ Mv F (fun j => j = g ∨ vk.ownBlock = some j) w wr
theorem AP.next {w wr w1 : World} {F : Bl} {g : Nat} {f0 l : List UInt8} {n : Int} {b : Bool} {m : Int} {k : Nat} {vk : Value} (h4 : R4 wr g vk n b m) (hn : vk.ownBlock ≠ some g) (hm : Mv F (fun j => j = g ∨ vk.ownBlock = some j) w wr) {g' n' cap' : Nat} {c : UInt8} (hc : l[k]? = some c)
    (h : Got wr w1 vk g' n' cap' ((f0 ++ l.take k) ++ [c])) : AP w F g f0 l n b m (k + 1) (w1.setCell ⟨g, 0, none⟩ (.slice (some ⟨g', 0, none⟩) n' cap')) := by
  have hgg : g' ≠ g := by
    rcases h.lies with q | q
    · intro e; exact hn (by rw [q, e])
    · have := h4.lt; omega
  have e : f0 ++ l.take (k + 1) = (f0 ++ l.take k) ++ [c] := by rw [List.take_add_one, hc]; simp
  have hk := Upd.setCell g 0 w1 (.slice (some ⟨g', 0, none⟩) n' cap')
  refine ⟨_, (h4.keep (h.block g h4.lt hn)).s0 _, ?_, ?_, hm.trans ⟨h.os, h.tape, h.output, by rw [hk.size]; exact h.size, fun j hj hF => ?_, fun j hj => ?_⟩⟩
  · rw [e]
    exact OY.upd h.own hk (by simpa [Value.ownBlock] using hgg)
  · simpa [Value.ownBlock] using hgg
  · exact (hk.block j (fun q => hF (Or.inl q))).trans (h.block j hj (fun q => hF (Or.inr q)))
  · rcases hj with rfl | q
    · exact Or.inl (Or.inl rfl)
    · have : g' = j := by simpa [Value.ownBlock] using q
      subst this
      rcases h.lies with z | z
      · exact Or.inl (Or.inr z)
      · exact Or.inr z

set_option maxRecDepth 100000 in
set_option maxHeartbeats 1600000 in
theorem rapp_any (w : World) (p : Addr) (F : Bl) (s : St) (v : Value) (l : List UInt8) (h : RD w p F s) (hl : BY w v l) (hap : l ≠ [] → ∀ k, F k → v.ownBlock ≠ some k) (hb : s.file.length + l.length ≤ 70000000000000) :
    Calls Tryd.prog 25 #[.pointer (some p), v] w fun e w' => ∃ F', e = .returned (.int .i64 (cd (sApp s l).2)) ∧ RD w' p F' (sApp s l).1 ∧ Mv F F' w w' := by
  obtain ⟨g, v0, rfl, h4, hy, hn, hF, hw, ha⟩ := h
  obtain ⟨file, syn, off, arm⟩ := s
  have c2 := h4.c2
  have H4 := hide h4
  have HY := hide hy
  have HN := hide hn
  have HF := hide hF
  have HW := hide hw
  have HA := hide ha
  have HL := hide hl
  have HAP := hide hap
  have HB := hide hb
  obtain ⟨ol, cl, rfl, _, _⟩ := hl.form
  cases off with
  | true =>
    have e : sApp ⟨file, syn, true, arm⟩ l = (⟨file, syn, true, arm⟩, 2) := rfl
    rw [e]
    clear h4 hy hn hF hw ha hl hap hb
    simp only [cd] at c2 ⊢
    go_enter Tryd.func25, Tryd.ntmps25
    go_wp2
    go_ret
    exact ⟨rfl, F, ⟨g, _, rfl, unhide H4, unhide HY, unhide HN, unhide HF, unhide HW, unhide HA⟩, Mv.quiet F (Below.refl _ _)⟩
  | false =>
    have C1 := hide (goes_any w g v0 _ _ _ h4 (by omega) ha)
    have es : sApp ⟨file, syn, false, arm⟩ l = (⟨file ++ l, syn, ((arm : Int) == 1), arm - 1⟩, if arm = 1 then 2 else 0) := by
      unfold sApp
      by_cases h1 : arm = 1
      · subst h1; rfl
      · simp [h1]; omega
    have em : (arm : Int) - (if (0 : Int) < (arm : Int) then 1 else 0) = ((arm - 1 : Nat) : Int) := by split <;> omega
    rw [es]
    rw [em] at C1
    obtain ⟨bb, hbb⟩ : ∃ bb, ((arm : Int) == 1) = bb := ⟨_, rfl⟩
    rw [hbb] at C1 ⊢
    have HBB := hide (show cd (if arm = 1 then 2 else 0) = if bb then 21 else 0 from by
      rw [← hbb]
      by_cases h1 : arm = 1
      · subst h1; rfl
      · have : ((arm : Int) == 1) = false := by simp; omega
        rw [this, if_neg h1]; rfl)
    simp only
    generalize hcd : cd (if arm = 1 then 2 else 0) = res at *
    have WF := hide (show Wf ⟨file ++ l, syn, bb, arm - 1⟩ from by unfold Wf at hw ⊢; simp only [List.length_append] at hw ⊢; omega)
    have HA2 := hide (show ((arm - 1 : Nat) : Int) ≤ 9223372036854775807 from by simp only at ha; omega)
    have HLL := hide (show l.length ≤ 70000000000000 from by omega)
    generalize hm1 : ((arm - 1 : Nat) : Int) = m1 at *
    have HM1 := hide hm1
    clear h4 hy hn hF hw ha hl hap hb es em hbb hcd hm1
    go_enter Tryd.func25, Tryd.ntmps25
    go_wp2_with fail
    refine (unhide C1).mono ?_
    rintro e w1 ⟨rfl, r1, u1⟩
    have A0 := hide (show AP w F g file l (syn : Int) bb m1 0 w1 from ⟨v0, r1, by rw [List.take_zero, List.append_nil]; exact OY.upd (unhide HY) u1 (unhide HN), unhide HN, ⟨u1.os, u1.tape, u1.output, Nat.le_of_eq u1.size.symm, fun k _ hk => u1.block k (fun q => hk ((unhide HF k).mpr (Or.inl q))), fun k hk => Or.inl ((unhide HF k).mpr hk)⟩⟩)
    clear r1 u1 C1 c2
    go_wp2
    go_loopw [6] (fun i wr => ∃ k : Nat, i = .int .i64 (k : Int) ∧ k ≤ l.length ∧ Hid (AP w F g file l (syn : Int) bb m1 k wr)) (fun i _ => l.length - (intOf i).toNat)
    case atStart => exact ⟨0, rfl, by omega, A0⟩
    case round =>
      clear A0
      obtain ⟨k, rfl, hk, A1⟩ := hrel
      have hll := unhide HLL
      by_cases hlt : k < l.length
      · obtain ⟨vk, r1, y1, n1, m1'⟩ := unhide A1
        have hby : BY wr (.slice ol l.length cl) l := m1'.by (unhide HL) (unhide HAP (by intro q; rw [q] at hlt; simp at hlt))
        obtain ⟨al, cl', el, _, _, hcell⟩ := hby.at (by omega)
        cases el
        have hc := hcell k l[k] (List.getElem?_eq_getElem hlt)
        have hck : l[k]? = some l[k] := List.getElem?_eq_getElem hlt
        have HCK := hide hck
        have HR := hide r1
        have HN1 := hide n1
        have HM := hide m1'
        obtain ⟨oo, nn, cc, evk⟩ : ∃ oo nn cc, vk = .slice oo nn cc := by
          obtain ⟨oo, cc, e, _⟩ := (OY.by y1).form
          exact ⟨oo, _, cc, e⟩
        subst evk
        have Y1 := hide y1
        have d0 := r1.c0
        have df := r1.f
        have hbd := hide (show (file ++ l.take k).length + 1 ≤ 70000000000001 from by have := unhide HB; simp only [List.length_append, List.length_take] at this ⊢; omega)
        have hd : decide ((k : Int) < (l.length : Int)) = true := decide_eq_true (by omega)
        have hd' : (k : Int) < (l.length : Int) := by omega
        have hk0 : (0 : Int) ≤ (k : Int) := by omega
        generalize l[k] = ch at *
        have HW1 : Hid (Below wr.heap.size wr (wr.drew.alloc (.cells #[.int .u8 (ch.toNat : Int)] 5))) := (Below.refl _ _).drew.alloc (Nat.le_refl _) _
        have HN2 : Hid ((wr.drew.alloc (.cells #[.int .u8 (ch.toNat : Int)] 5)).heap[wr.heap.size]? = some (.cells #[vb ch] 5 (0, 0))) := Array.getElem?_push_size
        have hz1 : (wr.drew.alloc (.cells #[.int .u8 (ch.toNat : Int)] 5)).heap.size = wr.heap.size + 1 := World.size_alloc _ _
        have hglt : g < wr.heap.size := r1.lt
        have halt : (al.add k).block < wr.heap.size := cell_lt hc
        clear r1 y1 n1 m1' hby hcell hck
        go_wp2_with fail
        go_region_law ((refine step_one wr _ _ _ ch (.tmp 23) (.tmp 28) (by rfl) (by rfl) (by rfl) (by rfl) Y1 hbd (by exact HW1) (by exact hz1) (by exact HN2) ?_
                        intro g' n' cap' w2 HG
                        have d2 := ((unhide HR).keep ((unhide HG).block g hglt (unhide HN1))).c0
                        have df2 := ((unhide HR).keep ((unhide HG).block g hglt (unhide HN1))).f))
        all_goals have A2 := hide (AP.next (unhide HR) (unhide HN1) (unhide HM) (unhide HCK) (unhide HG))
        all_goals clear HG HR HN1 HM HCK Y1 d0 df d2 df2 hbd HW1 HN2 hz1 A1 hc
        all_goals have e2 : (k : Int) < 9223372036854775807 := by omega
        all_goals go_wp2
        all_goals exact ⟨⟨k + 1, by go_num, by omega, A2⟩, by simp [intOf]; omega⟩
      · have hke : k = l.length := by omega
        subst hke
        have hd : decide ((l.length : Int) < (l.length : Int)) = false := decide_eq_false (by omega)
        obtain ⟨vk, r1, y1, n1, m1'⟩ := unhide A1
        rw [List.take_length] at y1
        have FIN := hide (show RD wr ⟨g, 0, none⟩ (fun j => j = g ∨ vk.ownBlock = some j) ⟨file ++ l, syn, bb, arm - 1⟩ from ⟨g, vk, rfl, by show R4 wr g vk _ _ ((arm - 1 : Nat) : Int); rw [unhide HM1]; exact r1, y1, n1, fun _ => Iff.rfl, unhide WF, by show ((arm - 1 : Nat) : Int) ≤ _; rw [unhide HM1]; exact unhide HA2⟩)
        have M2 := hide m1'
        have hres := unhide HBB
        clear r1 y1 n1 m1' A1 hlt hk
        cases bb with
        | true =>
          go_wp2
          go_ret
          first
          | exact ⟨rfl, _, unhide FIN, unhide M2⟩
          | exact ⟨_, by rw [hres]; rfl, unhide FIN, unhide M2⟩
        | false =>
          go_wp2
          go_ret
          first
          | exact ⟨rfl, _, unhide FIN, unhide M2⟩
          | exact ⟨_, by rw [hres]; rfl, unhide FIN, unhide M2⟩
end Go.Proofs.YtbcclolhfogpnaaDoor.dk
