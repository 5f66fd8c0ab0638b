/- The reference of package rule: Names. -/
import Derived.Test.YthpnclhfooileaaGreatDoorJl
import Derived.Deep.AppendLies
namespace Go.Proofs.YthpnclhfooileaaGreatDoor.ru
open Go.RowKit Go.Joins

def sdL : List ByteArray := [⟨#[69, 113, 117, 97, 108, 115]⟩, ⟨#[76, 101, 115, 115, 84, 104, 97, 110]⟩, ⟨#[71, 114, 101, 97, 116, 101, 114, 84, 104, 97, 110]⟩, ⟨#[76, 101, 115, 115, 84, 104, 97, 110, 69, 113, 117, 97, 108, 115]⟩, ⟨#[71, 114, 101, 97, 116, 101, 114, 84, 104, 97, 110, 69, 113, 117, 97, 108, 115]⟩]
def pathB : ByteArray := ⟨#[80, 97, 116, 104]⟩
def pairs (s : ByteArray) (k : Nat) : List ByteArray := (sdL.take k).flatMap fun x => [s ++ x, s ++ x ++ pathB]
def strB : ByteArray := ⟨#[83, 116, 114, 105, 110, 103]⟩
def numB : ByteArray := ⟨#[78, 117, 109, 101, 114, 105, 99]⟩
def timB : ByteArray := ⟨#[84, 105, 109, 101, 115, 116, 97, 109, 112]⟩
def hd4 : List ByteArray := [⟨#[]⟩, ⟨#[65, 110, 100]⟩, ⟨#[79, 114]⟩, ⟨#[78, 111, 116]⟩]
def mid1 : List ByteArray := [⟨#[83, 116, 114, 105, 110, 103, 77, 97, 116, 99, 104, 101, 115]⟩]
def mid2 : List ByteArray := [⟨#[66, 111, 111, 108, 101, 97, 110, 69, 113, 117, 97, 108, 115]⟩, ⟨#[66, 111, 111, 108, 101, 97, 110, 69, 113, 117, 97, 108, 115, 80, 97, 116, 104]⟩]
def end6 : List ByteArray := [⟨#[73, 115, 78, 117, 108, 108]⟩, ⟨#[73, 115, 80, 114, 101, 115, 101, 110, 116]⟩, ⟨#[73, 115, 78, 117, 109, 101, 114, 105, 99]⟩, ⟨#[73, 115, 83, 116, 114, 105, 110, 103]⟩, ⟨#[73, 115, 66, 111, 111, 108, 101, 97, 110]⟩, ⟨#[73, 115, 84, 105, 109, 101, 115, 116, 97, 109, 112]⟩]
def nmL : List ByteArray := hd4 ++ pairs strB 5 ++ mid1 ++ pairs numB 5 ++ mid2 ++ pairs timB 5 ++ end6
theorem nmL_len : nmL.length = 43 := by decide
theorem pairs_len (s : ByteArray) (k : Nat) : (pairs s k).length ≤ 10 := by
  unfold pairs
  rw [List.length_flatMap]
  have : (sdL.take k).length ≤ 5 := by rw [List.length_take]; show min k 5 ≤ 5; omega
  have e : ∀ l : List ByteArray, (l.map fun x => [s ++ x, s ++ x ++ pathB].length).sum = 2 * l.length := by
    intro l
    induction l with
    | nil => rfl
    | cons x l ih =>
      rw [List.map_cons, List.sum_cons, ih]
      simp only [List.length_cons, List.length_nil]
      omega
  rw [e]
  omega
theorem pairs_next (s : ByteArray) (k : Nat) (h : k < sdL.length) : pairs s (k + 1) = pairs s k ++ [s ++ sdL[k], s ++ sdL[k] ++ pathB] := by
  unfold pairs
  rw [List.take_succ_eq_append_getElem h, List.flatMap_append]
  simp
/-- A list of the call's own, and the five sides beside it. -/
structure Sd (w wr : World) (g n cap g2 : Nat) (l : List ByteArray) : Prop where
  own : OS wr w.heap.size (.slice (some ⟨g, 0, none⟩) n cap) l
  sd : ∀ j (h : j < sdL.length), wr.cell? ⟨g2, j, none⟩ = some (.string sdL[j])
  ne : g ≠ g2
  lt : g2 < wr.heap.size
  below : Below w.heap.size w wr
theorem Sd.grow {w wr W w1 : World} {g n cap g2 : Nat} {l news : List ByteArray} (h : Sd w wr g n cap g2 l) (hW : Below wr.heap.size wr W) (g' cap' : Nat) (hO : W.grownBy w1 (some g)) (o : OS w1 w.heap.size (.slice (some ⟨g', 0, none⟩) (l ++ news).length cap') (l ++ news)) (hg : some g = some g' ∨ wr.heap.size ≤ g') : Sd w w1 g' (l ++ news).length cap' g2 (l ++ news) := by
  have z := hW.size
  have z1 := hO.size
  have hl := h.lt
  have hbW := h.below.trans (hW.mono h.below.size)
  refine ⟨o, fun j hj => ?_, ?_, by omega, ?_⟩
  · have e : w1.heap[g2]? = wr.heap[g2]? := (hO.block g2 (by omega) (fun q => h.ne (Option.some.inj q).symm)).trans (hW.block g2 hl)
    have := h.sd j hj
    simp only [World.cell?, e] at this ⊢
    exact this
  · rcases hg with q | q
    · exact fun q2 => h.ne ((Option.some.inj q).trans q2)
    · omega
  · exact hbW.grown hO (by have := hbW.size; omega) (fun k hk => own_ge h.own k hk)
/-- append of some texts that lie in a block. -/
theorem step_texts {ops : Array Oper} {op : Oper} {a : Act} {K : Act → World → Prop} {Q : Exit → Act → World → Prop} {E0 : Prop} (w wr W : World) (g n cap g2 m : Nat) (l news : List ByteArray) (S X : Operand) (hgd : op.guard = none)
    (ho : op.op = .call { callee := .builtin .append, args := #[S, X], argTypes := #[23, 23] }) (hs : a.eval S = .slice (some ⟨g, 0, none⟩) n cap) (hx : a.eval X = .slice (some ⟨wr.heap.size, 0, none⟩) m m)
    (hown : Hid (Sd w wr g n cap g2 l)) (hm : news.length = m) (hm0 : 0 < m) (hn : l.length + m ≤ 1000) (hW : Hid (Below wr.heap.size wr W)) (hz : W.heap.size = wr.heap.size + 1) (hnews : Hid (W.heap[wr.heap.size]? = some (.cells (news.map vs).toArray 9 (0, 0))))
    (h : ∀ g' cap' w1, Hid (Sd w w1 g' (n + m) cap' g2 (l ++ news)) → K (a.put op.dst (.slice (some ⟨g', 0, none⟩) (n + m) cap')) w1) :
    if Region.wanted op (yielded ops a.tmps) = true then Oper.wp Tryz.prog op a W K Q else E0 := by
  obtain ⟨i0, hi, hz0, hz1, hz2⟩ := info_parts infoS
  have hc := (unhide hown).own.cap.1
  subst hc
  have hlg := (unhide hown).own
  have hgl : g < wr.heap.size := by
    obtain ⟨_, ⟨q1, _⟩ | ⟨g0, _, _, q1, _, hg0, _⟩⟩ := hlg
    · cases q1
    · cases q1
      rcases Nat.lt_or_ge g wr.heap.size with q | q
      · exact q
      · rw [Array.getElem?_eq_none q] at hg0; cases hg0
  have ownW : OS W w.heap.size (.slice (some ⟨g, 0, none⟩) l.length cap) l := hlg.move ((unhide hW).block g hgl)
  have hsz := (unhide hown).below.size
  refine step_append_lies _ hgd _ _ _ ho w.heap.size 9 i0 (.string ⟨#[]⟩) 1 16 Tryz.underlying23 hi hz0 hz1 hz2 rfl (by omega) (.slice (some ⟨g, 0, none⟩) l.length cap) l.length (l.map vs) hs ownW
    ⟨wr.heap.size, 0, none⟩ m m (news.map vs) hx (by rw [List.length_map, hm, Nat.mul_one]) (fun j u hu => ?_) (fun u hu => ?_) hm0 (by unfold maxLen; omega) (by omega) (by omega) (wr.heap.size + 1) hz ?_
  · have e : (⟨wr.heap.size, 0, none⟩ : Addr).add j = ⟨wr.heap.size, j, none⟩ := by unfold Addr.add; split <;> simp_all
    rw [e, blk_cell (unhide hnews)]
    simpa using hu
  · obtain ⟨x, _, rfl⟩ := List.mem_map.1 hu
    rfl
  · intro g' cap' w1 o hgr hat hlt
    have e : (l ++ news).length = l.length + m := by rw [List.length_append, hm]
    refine h g' cap' w1 ?_
    have o' : OS w1 w.heap.size (.slice (some ⟨g', 0, none⟩) (l ++ news).length cap') (l ++ news) := by
      unfold OS
      rw [e, List.map_append]
      exact o
    have := (unhide hown).grow (unhide hW) g' cap' hgr o' (hat.imp id (fun q => by omega))
    rw [e] at this
    exact this
end Go.Proofs.YthpnclhfooileaaGreatDoor.ru
