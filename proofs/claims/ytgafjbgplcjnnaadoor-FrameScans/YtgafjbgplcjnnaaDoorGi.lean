/- The laws' small functions: bytes.Equal, lent, kept, same. -/
import Derived.Test.YtgafjbgplcjnnaaDoorGh
import Derived.Laws.BytesArg
import Derived.Laws.IdiomStrings
namespace Go.Proofs.YtgafjbgplcjnnaaDoor.fr
open Go.RowKit

def str (l : List UInt8) : ByteArray := ⟨l.toArray⟩
theorem str_inj {l m : List UInt8} (h : str l = str m) : l = m := by
  unfold str at h
  simpa using h
theorem bs_str {w : World} {v : Value} {l : List UInt8} (h : BS w v l) : (convert 22 9 v).run Tryd.prog w = .ok (.string (str l)) w := by
  obtain ⟨oa, c, rfl, h1, h2, h3, h4⟩ := h
  cases oa with
  | none =>
    obtain ⟨rfl, rfl⟩ := h3 rfl
    exact run_convert_bytes_nil w 22 5 Tryd.underlying22 Tryd.underlying5 _ _ 9 Tryd.underlying9
  | some a =>
    exact run_convert_bytes_back w 22 9 5 a c l Tryd.underlying22 Tryd.underlying5 Tryd.underlying9 (fun j hj => h4 a rfl j l[j] (List.getElem?_eq_getElem hj))

set_option maxRecDepth 100000 in
set_option maxHeartbeats 1600000 in
theorem equal_any (l m : List UInt8) (v u : Value) (w : World) (h : BS w v l) (k : BS w u m) :
    Calls Tryd.prog 15 #[v, u] w fun e w' => e = .returned (.bool (decide (l = m))) ∧ w' = w := by
  have c1 := bs_str h
  have c2 := bs_str k
  obtain ⟨oa, c, rfl, h1, h2, h3, h4⟩ := h
  obtain ⟨ob, d, rfl, k1, k2, k3, k4⟩ := k
  have HI : Hid (decide (l = m) = ((str l).toList == (str m).toList)) := by
    show _ = _
    rw [ByteArray.toList_eq, ByteArray.toList_eq]
    unfold str
    rw [Bool.eq_iff_iff]
    simp
  generalize decide (l = m) = b at *
  generalize str l = x at *
  generalize str m = y at *
  clear h3 h4 k3 k4
  go_enter Tryd.func15, Tryd.ntmps15
  go_wp2
  go_ret
  refine ⟨?_, rfl⟩
  rw [unhide HI]
  rfl

/-- Bytes that are read as they lie: what lies in a row of the call's own, and what was laid by hand. -/
theorem bs_cells {w : World} {g : Nat} {cs : Array Value} {t : TypeId} {f : Nat × Nat} (h : w.heap[g]? = some (.cells cs t f)) (l : List UInt8) (hc : cs.toList = l.map vb) (hm : l.length ≤ maxLen) :
    BS w (.slice (some ⟨g, 0, none⟩) l.length l.length) l := by
  refine ⟨_, l.length, rfl, Nat.le_refl _, hm, (fun q => by cases q), fun a ha j u hu => ?_⟩
  cases ha
  have e : (⟨g, 0, none⟩ : Addr).add j = ⟨g, j, none⟩ := by unfold Addr.add; split <;> simp_all
  rw [e, blk_cell h, ← Array.getElem?_toList, hc, List.getElem?_map, hu]
  rfl
theorem ob_empty (w : World) (B : Nat) (h : B ≤ w.heap.size) : OB (w.alloc (.cells #[] 5)) B (.slice (some ⟨w.heap.size, 0, none⟩) 0 0) [] :=
  ⟨rfl, Or.inr ⟨w.heap.size, 0, #[], rfl, h, heap_alloc_new w _, Nat.le_refl _, by unfold maxLen; omega, rfl, rfl⟩⟩

def mark : List UInt8 := [165, 90, 165]
set_option maxRecDepth 100000 in
set_option maxHeartbeats 1600000 in
theorem lent_any (l : List UInt8) (v : Value) (w : World) (h : BS w v l) (hl : l.length ≤ 1000000000) :
    Calls Tryd.prog 9 #[v] w fun e w' => ∃ r, e = .returned r ∧ OB w' w.heap.size r (l ++ mark) ∧ Below w.heap.size w w' := by
  have HB := hide h
  obtain ⟨oa, c, rfl, h1, h2, h3, h4⟩ := h
  clear h3 h4
  have n1 := hide (ob_empty w w.heap.size (Nat.le_refl _))
  have b1 := hide ((Below.refl w.heap.size w).alloc (Nat.le_refl _) (.cells #[] 5))
  have S1 := hide ((unhide HB).keep (unhide b1))
  go_enter Tryd.func9, Tryd.ntmps9
  go_wp2_with (at_builtin; refine wpList_append_bytes rfl _ _ rfl w.heap.size _ _ _ _ rfl rfl (unhide n1) (unhide S1) ?a1 (unhide b1).size ?_)
  case a1 => simp; omega
  intro v2 w2 o2 g2 _
  have b2 := hide ((unhide n1).bl g2 (unhide b1) (unhide b1).size (Nat.le_refl _))
  have k2 := hide ((unhide b2).alloc (unhide b2).size (.cells #[.int .u8 165, .int .u8 90, .int .u8 165] 5))
  have O2 := hide (o2.keep ((Below.refl w2.heap.size w2).alloc (Nat.le_refl _) (.cells #[.int .u8 165, .int .u8 90, .int .u8 165] 5)) o2.lt)
  have S2 : Hid (BS (w2.alloc (.cells #[.int .u8 165, .int .u8 90, .int .u8 165] 5)) (.slice (some ⟨w2.heap.size, 0, none⟩) 3 3) mark) := bs_cells (heap_alloc_new w2 _) mark rfl (by unfold maxLen; decide)
  clear o2 g2 n1 b1 S1 b2
  go_wp2_with (at_builtin; refine wpList_append_bytes rfl _ _ rfl w.heap.size _ _ _ _ rfl rfl (unhide O2) (unhide S2) ?a1 (unhide k2).size ?_)
  case a1 => simp [mark]; omega
  intro v3 w3 o3 g3 _
  have b3 := hide ((unhide O2).bl g3 (unhide k2) (unhide k2).size (Nat.le_refl _))
  have O3 := hide o3
  clear o3 g3 O2 k2 S2
  go_wp2
  go_ret
  exact ⟨_, rfl, unhide O3, unhide b3⟩

end Go.Proofs.YtgafjbgplcjnnaaDoor.fr
