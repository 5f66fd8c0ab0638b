/- Several texts in one. -/
import Derived.Test.YtmnikcnjdeldeaaDoorRdG
import Derived.Test.YtmnikcnjdeldeaaDoorChecked
import Derived.WalkKit
import Derived.Deep.QuietTactic
import Derived.BigQuiet
import Derived.Outline
import Derived.WalkLawsBesides
import Derived.Lib.SmallJoins
import Derived.Deep.Cut
import Derived.Laws.OwnMore
import Derived.Laws.AppendOwnNone
import Derived.Deep.AppendLies
import Derived.ReadAgain
import Derived.ChangeStays
/- Rows in memory, whatever their elements are: read, owned, appended to, stored into. -/
namespace Go.Proofs.YtmnikcnjdeldeaaDoor.mm
open Go.RowKit

theorem below_drewN (B : Nat) (w : World) (n : Nat) : Below B w (w.drewN n) := ⟨rfl, rfl, rfl, Nat.le_refl _, fun _ _ => rfl⟩
theorem cell_lt {w : World} {a : Addr} {v : Value} (h : w.cell? a = some v) : a.block < w.heap.size := by
  rcases Nat.lt_or_ge a.block w.heap.size with h' | h'
  · exact h'
  · simp [World.cell?, Array.getElem?_eq_none h'] at h
theorem add0 (g j : Nat) : (⟨g, 0, none⟩ : Addr).add j = ⟨g, j, none⟩ := by unfold Addr.add; split <;> simp_all
theorem add_add (a : Addr) (n j : Nat) : (a.add n).add j = a.add (n + j) := by
  unfold Addr.add
  by_cases h : n = 0
  · subst h; simp
  · by_cases h2 : j = 0
    · subst h2; simp
    · simp [h, h2, Nat.add_assoc]
theorem row_keep {w w' : World} {B e s n : Nat} {v : Value} {xs : List Value} (h : w.ownsRow B e s v n xs) (hk : ∀ k, v.ownBlock = some k → w'.heap[k]? = w.heap[k]?) : w'.ownsRow B e s v n xs := by
  obtain ⟨hl, ⟨rfl, h0⟩ | ⟨g, cap, cur, rfl, hb', hg, r⟩⟩ := h
  · exact ⟨hl, Or.inl ⟨rfl, h0⟩⟩
  · exact ⟨hl, Or.inr ⟨g, cap, cur, rfl, hb', (hk g rfl).trans hg, r⟩⟩
theorem row_lt {w : World} {B e s n : Nat} {v : Value} {xs : List Value} (h : w.ownsRow B e s v n xs) : ∀ k, v.ownBlock = some k → B ≤ k ∧ k < w.heap.size := World.ownsRow.lt h
theorem row_mono {w : World} {B B' e s n : Nat} {v : Value} {xs : List Value} (h : w.ownsRow B e s v n xs) (hB : B' ≤ B) : w.ownsRow B' e s v n xs := by
  obtain ⟨hl, ⟨rfl, h0⟩ | ⟨g, cap, cur, rfl, hb', r⟩⟩ := h
  · exact ⟨hl, Or.inl ⟨rfl, h0⟩⟩
  · exact ⟨hl, Or.inr ⟨g, cap, cur, rfl, by omega, r⟩⟩
theorem row_below {w w' : World} {B C e s n : Nat} {v : Value} {xs : List Value} (h : w.ownsRow B e s v n xs) (hb : Below C w w') (hC : w.heap.size ≤ C) : w'.ownsRow B e s v n xs :=
  row_keep h (fun k hk => hb.block k (by have := (row_lt h k hk).2; omega))
theorem row_far {w w' : World} {B e s n : Nat} {v : Value} {xs : List Value} {row : Option Nat} (h : w.ownsRow B e s v n xs) (hg : w.grownBy w' row) (hd : ∀ k, v.ownBlock = some k → row ≠ some k) : w'.ownsRow B e s v n xs :=
  row_keep h (fun k hk => hg.block k (row_lt h k hk).2 (fun e => hd k hk e.symm))
theorem row_set {w : World} {B e s n g len c : Nat} {xs : List Value} (h : w.ownsRow B e s (.slice (some ⟨g, 0, none⟩) len c) n xs) (j : Nat) (x : Value) :
    (w.setCell ⟨g, j, none⟩ x).ownsRow B e s (.slice (some ⟨g, 0, none⟩) len c) n (xs.set j x) := by
  obtain ⟨hl, ⟨h0, _⟩ | ⟨g', cap, cur, hv, hb, hg, hc, hm, hs, ht⟩⟩ := h
  · cases h0
  · cases hv
    refine ⟨by rw [List.length_set]; exact hl, Or.inr ⟨g, c, cur.setIfInBounds j x, rfl, hb, blk_set hg j _, hc, hm, by simpa using hs, ?_⟩⟩
    rw [Array.toList_setIfInBounds, List.take_set, ht]
theorem row_frz {w : World} {B e s n g len c : Nat} {xs : List Value} (h : w.ownsRow B e s (.slice (some ⟨g, 0, none⟩) len c) n xs) (j : Nat) : w.frozen? ⟨g, j, none⟩ = false := by
  obtain ⟨hl, ⟨h0, _⟩ | ⟨g', cap, cur, hv, hb, hg, r⟩⟩ := h
  · cases h0
  · cases hv; exact blk_free hg j
/-- The first m of a row's n elements are a row. -/
theorem row_take {w : World} {B e s n g c : Nat} {xs : List Value} (h : w.ownsRow B e s (.slice (some ⟨g, 0, none⟩) n c) n xs) (m : Nat) (hm : m ≤ n) :
    w.ownsRow B e s (.slice (some ⟨g, 0, none⟩) m c) m (xs.take (m * s)) := by
  obtain ⟨hl, ⟨h0, _⟩ | ⟨g', cap, cur, hv, hb, hg, hc, hmx, hs, ht⟩⟩ := h
  · cases h0
  · cases hv
    have := Nat.mul_le_mul_right s hm
    refine ⟨by rw [List.length_take, hl]; omega, Or.inr ⟨g, c, cur, rfl, hb, hg, by omega, hmx, hs, ?_⟩⟩
    rw [← ht, List.take_take]
    congr 1
    omega

/-- A slice of n elements, of s cells each, that holds the cells xs. -/
def SV (w : World) (v : Value) (n s : Nat) (xs : List Value) : Prop :=
  xs.length = n * s ∧ ∃ oa c, v = .slice oa n c ∧ n ≤ c ∧ c ≤ maxLen ∧ (oa = none → n = 0 ∧ c = 0) ∧ ∀ a, oa = some a → ∀ (j : Nat) (u : Value), xs[j]? = some u → w.cell? (a.add j) = some u
theorem SV.drewN {w : World} {v : Value} {n s : Nat} {xs : List Value} (h : SV w v n s xs) (k : Nat) : SV (w.drewN k) v n s xs := h
theorem SV.keep {w w' : World} {v : Value} {n s : Nat} {xs : List Value} (h : SV w v n s xs) (hb : Below w.heap.size w w') : SV w' v n s xs := by
  obtain ⟨hl, oa, c, rfl, h1, h2, h3, h4⟩ := h
  refine ⟨hl, oa, c, rfl, h1, h2, h3, fun a ha j u hu => ?_⟩
  have := h4 a ha j u hu
  rw [hb.cell (cell_lt this)]; exact this
theorem SV.form {w : World} {v : Value} {n s : Nat} {xs : List Value} (h : SV w v n s xs) : ∃ oa c, v = .slice oa n c ∧ n ≤ c ∧ c ≤ maxLen := by
  obtain ⟨_, oa, c, rfl, h1, h2, _⟩ := h
  exact ⟨oa, c, rfl, h1, h2⟩
theorem SV.some {w : World} {v : Value} {n s : Nat} {xs : List Value} (h : SV w v n s xs) (hn : 0 < n) :
    ∃ a c, v = .slice (some a) n c ∧ n ≤ c ∧ c ≤ maxLen ∧ ∀ (j : Nat) (u : Value), xs[j]? = some u → w.cell? (a.add j) = some u := by
  obtain ⟨hl, oa, c, rfl, h1, h2, h3, h4⟩ := h
  cases oa with
  | none => have := (h3 rfl).1; omega
  | some a => exact ⟨a, c, rfl, h1, h2, h4 a rfl⟩
theorem own_sv {w : World} {B e s n : Nat} {v : Value} {xs : List Value} (h : w.ownsRow B e s v n xs) : SV w v n s xs := by
  obtain ⟨hl, ⟨rfl, h0⟩ | ⟨g, cap, cur, rfl, hb, hg, hc, hm, hs, ht⟩⟩ := h
  · exact ⟨hl, none, 0, by rw [h0], by omega, by unfold maxLen; omega, fun _ => ⟨h0, rfl⟩, fun a ha => by cases ha⟩
  · refine ⟨hl, _, cap, rfl, hc, hm, (fun q => by cases q), fun a ha j u hu => ?_⟩
    cases ha
    obtain ⟨hj, hju⟩ := List.getElem?_eq_some_iff.mp hu
    rw [add0, blk_cell hg]
    have h1 : (cur.toList.take (n * s))[j]? = xs[j]? := by rw [ht]
    rw [List.getElem?_take, if_pos (by omega), hu] at h1
    simpa using h1
/-- What was laid by hand. -/
theorem sv_cells {w : World} {g : Nat} {cs : Array Value} {t : TypeId} {f : Nat × Nat} (h : w.heap[g]? = some (.cells cs t f)) (n s : Nat) (hc : cs.size = n * s) (hm : n ≤ maxLen) : SV w (.slice (some ⟨g, 0, none⟩) n n) n s cs.toList := by
  refine ⟨by simpa using hc, _, n, rfl, Nat.le_refl _, hm, (fun q => by cases q), fun a ha j u hu => ?_⟩
  cases ha
  rw [add0, blk_cell h]
  simpa using hu
theorem own_new (w : World) (B e s n : Nat) (cs : Array Value) (h : B ≤ w.heap.size) (hc : cs.size = n * s) (hm : n ≤ maxLen) : (w.alloc (.cells cs e)).ownsRow B e s (.slice (some ⟨w.heap.size, 0, none⟩) n n) n cs.toList :=
  ⟨by simpa using hc, Or.inr ⟨w.heap.size, n, cs, rfl, h, heap_alloc_new w _, Nat.le_refl _, hm, hc, by rw [List.take_of_length_le (by simp [hc])]⟩⟩

/-! ### append -/
section
variable {P : Program}
theorem run_append_sv (w : World) (B t ty e : Nat) (z : Value) (s bytes : Nat) (ht : P.underlying t = some (.slice e)) (hinf : (P.info? e).map (fun i => (i.zero, i.size, i.bytes)) = some (some z, s, bytes)) (hzs : z.cells.size = s) (hsz : 0 < s)
    (v vs : Value) (n m : Nat) (xs news : List Value) (ho : w.ownsRow B e s v n xs) (hs : SV w vs m s news) (h1 : ∀ u ∈ news, u.oneCell' = true) (h63 : n + m ≤ maxLen) (hby : (n + m) * bytes ≤ 140737488355328) (hB : B ≤ w.heap.size) :
    ∃ v' w', (Builtin.append_ #[t, t] ty #[v, vs]).run P w = .ok v' w' ∧ w'.ownsRow B e s v' (n + m) (xs ++ news) ∧ w.grownBy w' v.ownBlock ∧ (v'.ownBlock = v.ownBlock ∨ v'.ownBlock = some w.heap.size) := by
  obtain ⟨i0, hi, hz0, hz1, hz2⟩ := info_parts hinf
  obtain ⟨hl, oa, c, rfl, g1, g2, g3, g4⟩ := hs
  cases oa with
  | none =>
    obtain ⟨rfl, rfl⟩ := g3 rfl
    have hn : news = [] := List.eq_nil_of_length_eq_zero (by omega)
    subst hn
    have := run_append_owned_none (P := P) (w := w) B t ty e i0 s ht hi v n xs ho
    exact ⟨v, w, this, by simpa using ho, World.grownBy.refl _ _, Or.inl rfl⟩
  | some ad =>
    obtain ⟨v', w', hr, h5, h6, _, h8⟩ := run_append_own_at (P := P) w B t ty e i0 z s bytes ht hi hz0 hz1 hz2 hzs hsz v n xs ho ad m c news hl (g4 ad rfl) h1 h63 hby hB
    exact ⟨v', w', hr, h5, h6, h8⟩

theorem wpList_append_sv {w : World} {ops : Array Oper} {rest : List Oper} {o : Oper} {a : Act} {Q : Exit → Act → World → Prop} (hgd : o.guard = none) (x y : Operand) (t : TypeId)
    (ho : o.op = .call { callee := .builtin .append, args := #[x, y], argTypes := #[t, t] })
    (B e : Nat) (z : Value) (s bytes : Nat) (ht : P.underlying t = some (.slice e)) (hinf : (P.info? e).map (fun i => (i.zero, i.size, i.bytes)) = some (some z, s, bytes)) (hzs : z.cells.size = s) (hsz : 0 < s)
    (v vs : Value) (n m : Nat) (xs news : List Value) (ev : a.eval x = v) (evs : a.eval y = vs) (hv : w.ownsRow B e s v n xs) (hs : SV w vs m s news) (h1 : ∀ u ∈ news, u.oneCell' = true) (h63 : n + m ≤ maxLen) (hby : (n + m) * bytes ≤ 140737488355328) (hB : B ≤ w.heap.size)
    (h : ∀ v' w', w'.ownsRow B e s v' (n + m) (xs ++ news) → w.grownBy w' v.ownBlock → (v'.ownBlock = v.ownBlock ∨ v'.ownBlock = some w.heap.size) → wpList P ops Q rest (a.put o.dst v') w') : wpList P ops Q (o :: rest) a w := by
  refine wpList_plain hgd fun K hK => ?_
  obtain ⟨v', w', hr, h2, h3, h4⟩ := run_append_sv (P := P) w B t o.type e z s bytes ht hinf hzs hsz v vs n m xs news hv hs h1 h63 hby hB
  unfold Oper.wp execOp
  simp only [ho, resolve, invoke, builtin, Sem.run_bind, Sem.run_pure, Result.andThen_ok, List.map_toArray, List.map_cons, List.map_nil, ev, evs, hr]
  exact hK _ _ (h v' w' h2 h3 h4)

/-- What came out of an append of a row that was owned from B on keeps all below B. -/
theorem row_bl {w w' wz : World} {B e s n : Nat} {v : Value} {xs : List Value} (h : w.ownsRow B e s v n xs) (hg : w.grownBy w' v.ownBlock) {C : Nat} (hb : Below C wz w) (hC : C ≤ B) (hs : C ≤ w.heap.size) : Below C wz w' :=
  hb.grown hg hs (fun k hk => by have := (row_lt h k hk).1; omega)
end

/-! ### Arguments read again -/
section
variable {H : Type} {enc : TypeId × Value → H} {P : Program}
theorem good_lt {w : World} {p : MemPlace} (h : Good w p) : p.block < w.heap.size := by
  cases p with
  | cell b off =>
    rcases Nat.lt_or_ge b w.heap.size with h' | h'
    · exact h'
    · simp_all [Good, World.cell?]
  | map b =>
    rcases Nat.lt_or_ge b w.heap.size with h' | h'
    · exact h'
    · simp_all [Good]
theorem all_stays {T : TypeId → Prop} (K : Kids P T) (hz : ∀ t e, T t → P.underlying t = some (.slice e) → 0 < P.cellsOf e) {W w' : World} (hb : Below W.heap.size W w') :
    ∀ {ts : List TypeId} {vs : List Value} {ds : List (DataW H)} {ps : List MemPlace}, (∀ t ∈ ts, T t) → DataW.TrodAll enc P W 0 (fun _ => true) true ts vs ds ps → DataW.TrodAll enc P w' 0 (fun b => decide (b < W.heap.size)) true ts vs ds ps
  | [], [], [], _, _, h => h
  | _ :: _, _ :: _, _ :: _, _, hT, ⟨p, q, ⟨n, h1⟩, h2, e⟩ => by
    have hg := DataW.trod_good K (fun h => by cases h) n _ _ _ (hT _ (List.mem_cons.2 (Or.inl rfl))) h1
    refine ⟨p, q, ⟨n, DataW.trod_stays K (fun {t e} => hz t e) (fun h => by cases h) (hT _ (List.mem_cons.2 (Or.inl rfl))) h1 (fun x hx => hb.same (good_lt (hg x hx))) (fun x hx => decide_eq_true (good_lt (hg x hx)))⟩, all_stays K hz hb (fun t ht => hT t (List.mem_cons.2 (Or.inr ht))) h2, e⟩
end

end Go.Proofs.YtmnikcnjdeldeaaDoor.mm

/- Package retry: what names match, as the document says it. -/
namespace Go.Proofs.YtmnikcnjdeldeaaDoor.rt
open Go.RowKit mm

def sOOF : List UInt8 := [83, 116, 97, 116, 101, 115, 46, 79, 117, 116, 79, 102, 70, 117, 101, 108]
def sALL : List UInt8 := [83, 116, 97, 116, 101, 115, 46, 65, 76, 76]
def sTF : List UInt8 := [83, 116, 97, 116, 101, 115, 46, 84, 97, 115, 107, 70, 97, 105, 108, 101, 100]
def sTO : List UInt8 := [83, 116, 97, 116, 101, 115, 46, 84, 105, 109, 101, 111, 117, 116]
/-- Does a name of a retrier or catcher speak of an error's name? -/
def one (n name : List UInt8) : Bool := n == name || n == sALL || n == sTF && name != sTO
def mat (names : List ByteArray) (name : ByteArray) : Bool := !(name.toList == sOOF) && names.any (fun n => one n.toList name.toList)
/-- A list of names in memory. -/
def SS (w : World) (v : Value) (l : List ByteArray) : Prop := SV w v l.length 1 (l.map .string)
theorem SS.keep {w w' : World} {v : Value} {l : List ByteArray} (h : SS w v l) (hb : Below w.heap.size w w') : SS w' v l := SV.keep h hb
theorem SS.at {w : World} {v : Value} {l : List ByteArray} (h : SS w v l) (hl : 0 < l.length) : ∃ a c, v = .slice (some a) l.length c ∧ l.length ≤ c ∧ c ≤ maxLen ∧ ∀ (j : Nat) (u : ByteArray), l[j]? = some u → w.cell? (a.add j) = some (.string u) := by
  obtain ⟨a, c, e, h1, h2, h3⟩ := SV.some h hl
  exact ⟨a, c, e, h1, h2, fun j u hu => h3 j _ (by rw [List.getElem?_map, hu]; rfl)⟩

theorem mat_oof (l : List ByteArray) (name : ByteArray) (h : (name.toList == sOOF) = true) : mat l name = false := by unfold mat; rw [h]; rfl
theorem any_none (l : List ByteArray) (p : ByteArray → Bool) (h : ∀ (j : Nat) (u : ByteArray), j < l.length → l[j]? = some u → p u = false) : l.any p = false := by
  rw [List.any_eq_false]
  intro x hx
  obtain ⟨j, hj⟩ := List.getElem?_of_mem hx
  obtain ⟨hlt, _⟩ := List.getElem?_eq_some_iff.mp hj
  simp [h j x hlt hj]
theorem any_some (l : List ByteArray) (p : ByteArray → Bool) (j : Nat) (u : ByteArray) (hj : l[j]? = some u) (h : p u = true) : l.any p = true := by
  rw [List.any_eq_true]
  exact ⟨u, List.mem_of_getElem? hj, h⟩

/-- The four tests of a name, in the walk's spelling. -/
theorem one_cases (n name : List UInt8) : (one n name = true ∧ ((n == name) = true ∨ ((n == name) = false ∧ (n == sALL) = true) ∨ ((n == name) = false ∧ (n == sALL) = false ∧ (n == sTF) = true ∧ (name == sTO) = false))) ∨
    (one n name = false ∧ (n == name) = false ∧ (n == sALL) = false ∧ ((n == sTF) = false ∨ ((n == sTF) = true ∧ (name == sTO) = true))) := by
  unfold one
  cases h1 : (n == name) <;> cases h2 : (n == sALL) <;> cases h3 : (n == sTF) <;> cases h4 : (name == sTO) <;> simp [bne, h4]

set_option maxRecDepth 100000 in
set_option maxHeartbeats 1600000 in
theorem rmatches_any (l : List ByteArray) (name : ByteArray) (v : Value) (w : World) (h : SS w v l) :
    Calls Tryd.prog 12 #[v, .string name] w fun e w' => e = .returned (.bool (mat l name)) ∧ w' = w := by
  have H := hide h
  obtain ⟨oa, c, rfl, h1, h2⟩ := SV.form h
  clear h
  cases h0 : (name.toList == sOOF) with
  | true =>
    have HM := hide (mat_oof l name h0)
    generalize mat l name = res at *
    unfold sOOF at h0
    go_enter Tryd.func12, Tryd.ntmps12
    go_wp2
    go_ret
    exact ⟨by rw [unhide HM]; rfl, rfl⟩
  | false =>
    have HM : Hid (mat l name = l.any (fun n => one n.toList name.toList)) := by show _ = _; unfold mat; rw [h0]; rfl
    generalize mat l name = res at *
    unfold sOOF at h0
    go_enter Tryd.func12, Tryd.ntmps12
    go_wp2
    go_loopw [5] (fun iv wr => ∃ k : Nat, k ≤ l.length ∧ iv = .int .i64 (k : Int) ∧ Hid (∀ (j : Nat) (u : ByteArray), j < k → l[j]? = some u → one u.toList name.toList = false) ∧ wr = w) (fun iv _ => l.length - (intOf iv).toNat)
    case atStart => exact ⟨0, by omega, rfl, (fun j u hj => by omega), rfl⟩
    case round =>
      obtain ⟨k, hk, rfl, hn, rfl⟩ := hrel
      by_cases hc : k < l.length
      · have e1 : (k : Int) < (l.length : Int) := by omega
        have e2 : (k : Int) < 9223372036854775807 := by unfold maxLen at h2; omega
        obtain ⟨a, c', e, _, _, hcell⟩ := SS.at (unhide H) (by omega)
        cases e
        obtain ⟨u, hu⟩ : ∃ u, l[k]? = some u := ⟨l[k], List.getElem?_eq_getElem hc⟩
        have hcu := hcell k u hu
        have HU := hide hu
        clear hcell hu H
        rcases one_cases u.toList name.toList with ⟨ho, q | ⟨q1, q2⟩ | ⟨q1, q2, q3, q4⟩⟩ | ⟨ho, q1, q2, q3 | ⟨q3, q4⟩⟩
        · have HO := hide (any_some l (fun n => one n.toList name.toList) k u (unhide HU) ho)
          clear ho hn
          go_wp2
          go_ret
          exact ⟨by rw [unhide HM, unhide HO]; rfl, rfl⟩
        · have HO := hide (any_some l (fun n => one n.toList name.toList) k u (unhide HU) ho)
          clear ho hn
          unfold sALL at q2
          go_wp2
          go_ret
          exact ⟨by rw [unhide HM, unhide HO]; rfl, rfl⟩
        · have HO := hide (any_some l (fun n => one n.toList name.toList) k u (unhide HU) ho)
          clear ho hn
          unfold sALL at q2
          unfold sTF at q3
          unfold sTO at q4
          go_wp2
          go_ret
          exact ⟨by rw [unhide HM, unhide HO]; rfl, rfl⟩
        · have HO : Hid (∀ (j : Nat) (x : ByteArray), j < k + 1 → l[j]? = some x → one x.toList name.toList = false) := fun j x hj hx => by
            by_cases e : j = k
            · subst e; rw [unhide HU] at hx; cases hx; exact ho
            · exact unhide hn j x (by omega) hx
          clear ho hn
          unfold sALL at q2
          unfold sTF at q3
          go_wp2
          exact ⟨⟨k + 1, by omega, by go_num, HO, trivial⟩, by simp [intOf]; omega⟩
        · have HO : Hid (∀ (j : Nat) (x : ByteArray), j < k + 1 → l[j]? = some x → one x.toList name.toList = false) := fun j x hj hx => by
            by_cases e : j = k
            · subst e; rw [unhide HU] at hx; cases hx; exact ho
            · exact unhide hn j x (by omega) hx
          clear ho hn
          unfold sALL at q2
          unfold sTF at q3
          unfold sTO at q4
          go_wp2
          exact ⟨⟨k + 1, by omega, by go_num, HO, trivial⟩, by simp [intOf]; omega⟩
      · obtain rfl : k = l.length := by omega
        have HO := hide (any_none l (fun n => one n.toList name.toList) (unhide hn))
        clear hn H
        go_wp2
        go_ret
        exact ⟨by rw [unhide HM, unhide HO]; rfl, rfl⟩

end Go.Proofs.YtmnikcnjdeldeaaDoor.rt

/- The laws' small functions: texts, kept. -/
namespace Go.Proofs.YtmnikcnjdeldeaaDoor.rt
open Go.RowKit Go.Joins mm

theorem infoStr : (Tryd.prog.info? 9).map (fun i => (i.zero, i.size, i.bytes)) = some (some (.string .empty), 1, 16) := by kernel_rfl
theorem infoInt : (Tryd.prog.info? 3).map (fun i => (i.zero, i.size, i.bytes)) = some (some (.int .i64 0), 1, 8) := by kernel_rfl
def hash : ByteArray := ⟨#[35]⟩
theorem undS : Tryd.prog.underlying 22 = some (.slice 9) := by kernel_rfl
theorem undI : Tryd.prog.underlying 27 = some (.slice 3) := by kernel_rfl
theorem size_str (u : World) : (sizeOf (Tryd.prog.elem 22)).run Tryd.prog u = .ok 1 u := by
  have e : Tryd.prog.elem 22 = 9 := by kernel_rfl
  rw [e]
  have h : Tryd.t9.size = 1 := by kernel_rfl
  simp [sizeOf, go_sem, h]
theorem size_int (u : World) : (sizeOf (Tryd.prog.elem 27)).run Tryd.prog u = .ok 1 u := by
  have e : Tryd.prog.elem 27 = 3 := by kernel_rfl
  rw [e]
  have h : Tryd.t3.size = 1 := by kernel_rfl
  simp [sizeOf, go_sem, h]
/-- Texts in a row of the call's own. -/
def OS (w : World) (B : Nat) (v : Value) (l : List ByteArray) : Prop := w.ownsRow B 9 1 v l.length (l.map .string)
theorem OS.ss {w : World} {B : Nat} {v : Value} {l : List ByteArray} (h : OS w B v l) : SS w v l := own_sv h
theorem one_str (l : List ByteArray) : ∀ u ∈ l.map Value.string, u.oneCell' = true := fun u hu => by
  obtain ⟨x, _, rfl⟩ := List.mem_map.mp hu
  rfl
theorem os_append {w : World} {B : Nat} {v : Value} {l m : List ByteArray} (h : w.ownsRow B 9 1 v (l.length + m.length) (l.map .string ++ m.map .string)) : OS w B v (l ++ m) := by
  unfold OS
  rw [List.length_append, List.map_append]
  exact h

/-- What texts answers: a copy, of the call's own, two marks behind it. -/
def TxP (B : Nat) (l : List ByteArray) (e : Ending) (w : World) : Prop :=
  ∃ g c, e = .returned (.slice (some ⟨g, 0, none⟩) l.length c) ∧ B ≤ g ∧ l.length + 2 ≤ c ∧ OS w B (.slice (some ⟨g, 0, none⟩) (l.length + 2) c) (l ++ [hash, hash])

set_option maxRecDepth 100000 in
set_option maxHeartbeats 1600000 in
theorem texts_any (l : List ByteArray) (v : Value) (w : World) (h : SS w v l) (hl : (l.length + 2) * 16 ≤ 140737488355328) :
    Calls Tryd.prog 9 #[v] w fun e w' => TxP w.heap.size l e w' ∧ Below w.heap.size w w' := by
  have H := hide h
  obtain ⟨oa, c, rfl, h1, h2⟩ := SV.form h
  clear h
  go_enter Tryd.func9, Tryd.ntmps9
  go_wp2_with (at_builtin; refine wpList_append_sv (P := Tryd.prog) rfl _ _ 22 rfl w.heap.size 9 _ 1 16 undS infoStr rfl (by decide) _ _ 0 l.length [] (l.map .string) rfl rfl (World.ownsRow_nil _ _ _ _) (unhide H) (one_str l) ?a1 ?a2 (Nat.le_refl _) ?_)
  case a1 => unfold maxLen; omega
  case a2 => omega
  intro v1 w1 o1 g1 _
  have B1 : Hid (Below w.heap.size w w1) := (Below.refl _ _).grown g1 (Nat.le_refl _) (fun k hk => by cases hk)
  have O1 := hide o1
  clear o1 g1
  have n2 := hide (sv_cells (heap_alloc_new w1 (.cells #[.string hash, .string hash] 9)) 2 1 rfl (by unfold maxLen; decide))
  have O2 := hide (row_below (unhide O1) ((Below.refl w1.heap.size w1).alloc (Nat.le_refl _) (.cells #[.string hash, .string hash] 9)) (Nat.le_refl _))
  have B2 := hide ((unhide B1).alloc (unhide B1).size (.cells #[.string hash, .string hash] 9))
  clear O1 B1
  go_wp2_with (at_builtin; refine wpList_append_sv (P := Tryd.prog) rfl _ _ 22 rfl w.heap.size 9 _ 1 16 undS infoStr rfl (by decide) _ _ l.length 2 (l.map .string) [.string hash, .string hash] rfl rfl (unhide O2) (unhide n2) ?a3 ?a4 ?a5 (unhide B2).size ?_)
  case a3 => rfl
  case a4 => unfold maxLen; omega
  try case a5 => omega
  intro v3 w3 o3 g3 _
  have B3 := hide (row_bl (unhide O2) g3 (unhide B2) (Nat.le_refl _) (unhide B2).size)
  clear O2 B2 n2 g3
  obtain ⟨hl3, ⟨_, h0⟩ | ⟨g, cap, cur, rfl, hb, hg, hc, hm, hs, ht⟩⟩ := id o3
  · omega
  have hsl : ∀ u : World, (Instr.slice 22 (.slice (some ⟨g, 0, none⟩) (l.length + 2) cap) none (some (.int .i64 (l.length : Int))) none).run Tryd.prog u = .ok (.slice (some ⟨g, 0, none⟩) l.length cap) u := fun u => by
    rw [run_slice_h (P := Tryd.prog) (ht := undS) (h0 := by omega) (h2 := by omega), size_str]
    simp [sliced, Addr.add]
  have O3 : Hid (OS w3 w.heap.size (.slice (some ⟨g, 0, none⟩) (l.length + 2) cap) (l ++ [hash, hash])) := os_append (m := [hash, hash]) o3
  clear o3 hl3 hg hs ht
  go_wp2
  go_ret
  exact ⟨⟨g, cap, rfl, hb, hc, unhide O3⟩, unhide B3⟩

theorem SS.hd {w : World} {v : Value} {l : List ByteArray} {g c n : Nat} (h : SS w v l) (e : v = .slice (some ⟨g, 0, none⟩) n c) : ∀ (j : Nat) (u : ByteArray), l[j]? = some u → w.cell? ⟨g, j, none⟩ = some (.string u) := by
  obtain ⟨_, oa, c', rfl, h1, h2, h3, h4⟩ := h
  simp only [Value.slice.injEq] at e
  obtain ⟨rfl, _, _⟩ := e
  intro j u hu
  have := h4 _ rfl j (.string u) (by rw [List.getElem?_map, hu]; rfl)
  rwa [add0] at this

set_option maxRecDepth 100000 in
set_option maxHeartbeats 1600000 in
theorem kept_any (l : List ByteArray) (g c : Nat) (v2 : Value) (w : World) (h : OS w 0 (.slice (some ⟨g, 0, none⟩) (l.length + 2) c) (l ++ [hash, hash])) (h2 : SS w v2 l) (hc : l.length + 2 ≤ c) :
    Calls Tryd.prog 11 #[.slice (some ⟨g, 0, none⟩) l.length c, v2] w fun e w' => e = .returned (.bool true) ∧ ∃ n, w' = w.drewN n := by
  have hcell := h.ss.hd rfl
  have H2 := hide h2
  obtain ⟨oa, c2, rfl, k1, k2⟩ := SV.form h2
  have hcm : c ≤ maxLen := by
    obtain ⟨_, ⟨q, _⟩ | ⟨g', cap, cur, q, _, _, _, hm, _⟩⟩ := h
    · cases q
    · simp only [Value.slice.injEq] at q
      obtain ⟨_, _, rfl⟩ := q
      exact hm
  have c1 : w.cell? ⟨g, l.length, none⟩ = some (.string hash) := hcell l.length hash (by simp)
  have c2' : w.cell? ⟨g, l.length + 1, none⟩ = some (.string hash) := hcell (l.length + 1) hash (by simp)
  have HC : Hid (∀ (j : Nat) (u : ByteArray), l[j]? = some u → w.cell? ⟨g, j, none⟩ = some (.string u)) := fun j u hu => hcell j u (by
    obtain ⟨hj, _⟩ := List.getElem?_eq_some_iff.mp hu
    rw [List.getElem?_append_left hj]; exact hu)
  have hsl : ∀ u : World, (Instr.slice 22 (.slice (some ⟨g, 0, none⟩) l.length c) none (some (.int .i64 ((l.length : Int) + 2))) none).run Tryd.prog u = .ok (.slice (some ⟨g, 0, none⟩) (l.length + 2) c) u := fun u => by
    have e : (l.length : Int) + 2 = ((l.length + 2 : Nat) : Int) := by omega
    rw [e, run_slice_h (P := Tryd.prog) (ht := undS) (h0 := by omega) (h2 := by omega), size_str]
    simp [sliced, Addr.add]
    omega
  clear hcell h h2
  unfold maxLen at hcm
  have hh : hash.toList = [35] := by unfold hash; rw [ByteArray.toList_eq]
  go_enter Tryd.func11, Tryd.ntmps11
  go_wp2
  go_loopw [6] (fun iv wr => ∃ k : Nat, k ≤ l.length ∧ iv = .int .i64 (k : Int) ∧ ∃ n, wr = w.drewN n) (fun iv _ => l.length - (intOf iv).toNat)
  case atStart => exact ⟨0, by omega, rfl, 0, rfl⟩
  case round =>
    obtain ⟨k, hk, rfl, n, hw⟩ := hrel
    by_cases hc' : k < l.length
    · have e1 : (k : Int) < (l.length : Int) := by omega
      obtain ⟨a, c3, e, _, _, hcell2⟩ := SS.at (unhide H2) (by omega)
      cases e
      obtain ⟨u, hu⟩ : ∃ u, l[k]? = some u := ⟨l[k], List.getElem?_eq_getElem hc'⟩
      have d1 : wr.cell? ⟨g, k, none⟩ = some (.string u) := by rw [hw]; exact unhide HC k u hu
      have d2 : wr.cell? (a.add k) = some (.string u) := by rw [hw]; exact hcell2 k u hu
      have e3 : (k : Int) < (l.length : Int) + 2 := by omega
      have HW := hide hw
      clear hcell2 hu hw
      go_wp2
      go_quiet (fail)
      go_wp2
      exact ⟨⟨k + 1, by omega, by go_num, n + nq, by rw [unhide HW, World.drewN_drewN]⟩, by simp [intOf]; omega⟩
    · obtain rfl : k = l.length := by omega
      have d1 : wr.cell? ⟨g, l.length, none⟩ = some (.string hash) := by rw [hw]; exact c1
      have d2 : wr.cell? ⟨g, l.length + 1, none⟩ = some (.string hash) := by rw [hw]; exact c2'
      have e3 : (l.length : Int) < (l.length : Int) + 2 := by omega
      have HW := hide hw
      clear hw c1 c2'
      go_wp2
      go_ret
      exact ⟨rfl, n, unhide HW⟩

end Go.Proofs.YtmnikcnjdeldeaaDoor.rt

/- Retriers and catchers in memory; what is asked of package retry's calls. -/
namespace Go.Proofs.YtmnikcnjdeldeaaDoor.rt
open Go.RowKit Go.Joins mm

/-- A retrier. -/
structure Rtr where
  errs : List ByteArray
  iv : Int
  most : Int
  neg : Bool
  digs : ByteArray
  ex : Int
  md : Int
/-- Whole numbers in memory. -/
def IS (w : World) (v : Value) (l : List Int) : Prop := SV w v l.length 1 (l.map (Value.int .i64 ·))
theorem IS.keep {w w' : World} {v : Value} {l : List Int} (h : IS w v l) (hb : Below w.heap.size w w') : IS w' v l := SV.keep h hb
theorem IS.at {w : World} {v : Value} {l : List Int} (h : IS w v l) (hl : 0 < l.length) : ∃ a c, v = .slice (some a) l.length c ∧ l.length ≤ c ∧ c ≤ maxLen ∧ ∀ (j : Nat) (u : Int), l[j]? = some u → w.cell? (a.add j) = some (.int .i64 u) := by
  obtain ⟨a, c, e, h1, h2, h3⟩ := SV.some h hl
  exact ⟨a, c, e, h1, h2, fun j u hu => h3 j _ (by rw [List.getElem?_map, hu]; rfl)⟩
/-- A retrier's cells from a place on. -/
structure RC (w : World) (a : Addr) (r : Rtr) : Prop where
  c0 : ∃ ev, w.cell? a = some ev ∧ SS w ev r.errs
  c1 : w.cell? (a.add 1) = some (.int .i64 r.iv)
  c2 : w.cell? (a.add 2) = some (.int .i64 r.most)
  c3 : w.cell? (a.add 3) = some (.bool r.neg)
  c4 : w.cell? (a.add 4) = some (.string r.digs)
  c5 : w.cell? (a.add 5) = some (.int .i64 r.ex)
  c6 : w.cell? (a.add 6) = some (.int .i64 r.md)
/-- Retriers in memory. -/
def RL (w : World) (v : Value) (l : List Rtr) : Prop :=
  ∃ oa c, v = .slice oa l.length c ∧ l.length ≤ c ∧ c ≤ maxLen ∧ (oa = none → l = [] ∧ c = 0) ∧ ∀ a, oa = some a → ∀ (j : Nat) (r : Rtr), l[j]? = some r → RC w (a.add (j * 7)) r
theorem RC.keep {w w' : World} {a : Addr} {r : Rtr} (h : RC w a r) (hb : Below w.heap.size w w') : RC w' a r := by
  have k : ∀ (p : Addr) (v : Value), w.cell? p = some v → w'.cell? p = some v := fun p v hp => by rw [hb.cell (cell_lt hp)]; exact hp
  obtain ⟨ev, e1, e2⟩ := h.c0
  exact ⟨⟨ev, k _ _ e1, e2.keep hb⟩, k _ _ h.c1, k _ _ h.c2, k _ _ h.c3, k _ _ h.c4, k _ _ h.c5, k _ _ h.c6⟩
theorem RL.keep {w w' : World} {v : Value} {l : List Rtr} (h : RL w v l) (hb : Below w.heap.size w w') : RL w' v l := by
  obtain ⟨oa, c, e, h1, h2, h3, h4⟩ := h
  exact ⟨oa, c, e, h1, h2, h3, fun a ha j r hr => (h4 a ha j r hr).keep hb⟩
theorem RL.form {w : World} {v : Value} {l : List Rtr} (h : RL w v l) : ∃ oa c, v = .slice oa l.length c ∧ l.length ≤ c ∧ c ≤ maxLen := by
  obtain ⟨oa, c, e, h1, h2, _⟩ := h
  exact ⟨oa, c, e, h1, h2⟩
theorem RL.at {w : World} {v : Value} {l : List Rtr} (h : RL w v l) (hl : 0 < l.length) : ∃ a c, v = .slice (some a) l.length c ∧ l.length ≤ c ∧ c ≤ maxLen ∧ ∀ (j : Nat) (r : Rtr), l[j]? = some r → RC w (a.add (j * 7)) r := by
  obtain ⟨oa, c, rfl, h1, h2, h3, h4⟩ := h
  cases oa with
  | none => have := (h3 rfl).1; subst this; simp at hl
  | some a => exact ⟨a, c, rfl, h1, h2, h4 a rfl⟩

/-- A catcher: what it holds besides its names is carried along. -/
structure Ctr where
  errs : List ByteArray
  b1 : Bool
  b2 : Bool
  b3 : Bool
  oa : Option Addr
  n : Nat
  c : Nat
  next : ByteArray
structure CC (w : World) (a : Addr) (r : Ctr) : Prop where
  c0 : ∃ ev, w.cell? a = some ev ∧ SS w ev r.errs
  c1 : w.cell? (a.add 1) = some (.bool r.b1)
  c2 : w.cell? (a.add 2) = some (.bool r.b2)
  c3 : w.cell? (a.add 3) = some (.bool r.b3)
  c4 : w.cell? (a.add 4) = some (.slice r.oa r.n r.c)
  c5 : w.cell? (a.add 5) = some (.string r.next)
def CL (w : World) (v : Value) (l : List Ctr) : Prop :=
  ∃ oa c, v = .slice oa l.length c ∧ l.length ≤ c ∧ c ≤ maxLen ∧ (oa = none → l = [] ∧ c = 0) ∧ ∀ a, oa = some a → ∀ (j : Nat) (r : Ctr), l[j]? = some r → CC w (a.add (j * 6)) r
theorem CC.keep {w w' : World} {a : Addr} {r : Ctr} (h : CC w a r) (hb : Below w.heap.size w w') : CC w' a r := by
  have k : ∀ (p : Addr) (v : Value), w.cell? p = some v → w'.cell? p = some v := fun p v hp => by rw [hb.cell (cell_lt hp)]; exact hp
  obtain ⟨ev, e1, e2⟩ := h.c0
  exact ⟨⟨ev, k _ _ e1, e2.keep hb⟩, k _ _ h.c1, k _ _ h.c2, k _ _ h.c3, k _ _ h.c4, k _ _ h.c5⟩
theorem CL.keep {w w' : World} {v : Value} {l : List Ctr} (h : CL w v l) (hb : Below w.heap.size w w') : CL w' v l := by
  obtain ⟨oa, c, e, h1, h2, h3, h4⟩ := h
  exact ⟨oa, c, e, h1, h2, h3, fun a ha j r hr => (h4 a ha j r hr).keep hb⟩
theorem CL.form {w : World} {v : Value} {l : List Ctr} (h : CL w v l) : ∃ oa c, v = .slice oa l.length c ∧ l.length ≤ c ∧ c ≤ maxLen := by
  obtain ⟨oa, c, e, h1, h2, _⟩ := h
  exact ⟨oa, c, e, h1, h2⟩
theorem CL.at {w : World} {v : Value} {l : List Ctr} (h : CL w v l) (hl : 0 < l.length) : ∃ a c, v = .slice (some a) l.length c ∧ l.length ≤ c ∧ c ≤ maxLen ∧ ∀ (j : Nat) (r : Ctr), l[j]? = some r → CC w (a.add (j * 6)) r := by
  obtain ⟨oa, c, rfl, h1, h2, h3, h4⟩ := h
  cases oa with
  | none => have := (h3 rfl).1; subst this; simp at hl
  | some a => exact ⟨a, c, rfl, h1, h2, h4 a rfl⟩

/-- How often the retrier at a place was charged. -/
def tms (ch : List Int) (k : Nat) : Int := match ch[k]? with | some n => if n < 0 then 0 else n | none => 0
/-- Which retrier decides. -/
def fnd (l : List Rtr) (name : ByteArray) : Option Nat := l.findIdx? (fun r => mat r.errs name)
def ctc (l : List Ctr) (name : ByteArray) : Option Nat := l.findIdx? (fun r => mat r.errs name)
/-- What Retry answers: dl tells how long a retrier waits at its n-th charge. -/
def rty (dl : Rtr → Int → Int) (l : List Rtr) (ch : List Int) (name : ByteArray) : Int × Int × Bool :=
  match fnd l name with
  | none => (0, 0, false)
  | some k => match l[k]? with
    | none => (0, 0, false)
    | some r => if r.most ≤ tms ch k then (0, 0, false) else ((k : Int), dl r (tms ch k + 1), true)
def cat (l : List Ctr) (name : ByteArray) : Int × Bool := match ctc l name with | none => (0, false) | some k => ((k : Int), true)
/-- What Charge answers. -/
def up1 (n : Int) : Int := if n < 0 then 1 else if n < 9223372036854775807 then n + 1 else n
def chg (ch : List Int) (p : Int) : List Int :=
  if p < 0 ∨ (65535 < p ∧ (ch.length : Int) ≤ p) then ch
  else let l := ch ++ List.replicate (p.toNat + 1 - ch.length) 0
       l.set p.toNat (up1 ((l[p.toNat]?).getD 0))
/-- Whole numbers in a row of the call's own. -/
def OI (w : World) (B : Nat) (v : Value) (l : List Int) : Prop := w.ownsRow B 3 1 v l.length (l.map (Value.int .i64 ·))
theorem OI.is {w : World} {B : Nat} {v : Value} {l : List Int} (h : OI w B v l) : IS w v l := own_sv h
def Okr (r : Rtr) : Prop := -9223372036854775808 ≤ r.iv ∧ r.iv ≤ 9223372036854775807 ∧ -9223372036854775808 ≤ r.most ∧ r.most ≤ 9223372036854775807 ∧ -9223372036854775808 ≤ r.ex ∧ r.ex ≤ 9223372036854775807 ∧ -9223372036854775808 ≤ r.md ∧ r.md ≤ 9223372036854775807 ∧ r.digs.size ≤ 1048576
def Oki (n : Int) : Prop := -9223372036854775808 ≤ n ∧ n ≤ 9223372036854775807

def sA : ByteArray := ⟨#[97]⟩
def sB : ByteArray := ⟨#[98]⟩
def sAll : ByteArray := ⟨#[83, 116, 97, 116, 101, 115, 46, 65, 76, 76]⟩
/-- The example's retrier. -/
def exR : Rtr := ⟨[sA], 2, 2, false, ⟨#[49, 53]⟩, -1, 0⟩
/-- What is asked of package retry; G: what its variables hold; dl: how long a retrier waits. -/
structure RetryOK (G : World → Prop) (dl : Rtr → Int → Int) : Prop where
  keep : ∀ w w', G w → Below w.heap.size w w' → G w'
  matches_ : ∀ l name v w, G w → SS w v l → l.length ≤ 1000000000000 → Calls Tryd.prog 10 #[v, .string name] w fun e w' => e = .returned (.bool (mat l name)) ∧ Below w.heap.size w w'
  retry : ∀ l ch name v c w, G w → RL w v l → IS w c ch → (∀ r ∈ l, Okr r) → (∀ n ∈ ch, Oki n) → l.length ≤ 1000000000000 → Calls Tryd.prog 20 #[v, c, .string name] w fun e w' =>
    e = .returned (.tuple #[.int .i64 (rty dl l ch name).1, .int .i64 (rty dl l ch name).2.1, .bool (rty dl l ch name).2.2]) ∧ Below w.heap.size w w'
  charge : ∀ ch p c w, G w → IS w c ch → (∀ n ∈ ch, Oki n) → Oki p → ch.length ≤ 1000000000000 → Calls Tryd.prog 13 #[c, .int .i64 p] w fun e w' => ∃ v, e = .returned v ∧ OI w' w.heap.size v (chg ch p) ∧ Below w.heap.size w w'
  catch_ : ∀ l name v w, G w → CL w v l → l.length ≤ 1000000000000 → Calls Tryd.prog 17 #[v, .string name] w fun e w' => e = .returned (.tuple #[.int .i64 (cat l name).1, .bool (cat l name).2]) ∧ Below w.heap.size w w'
  ex : dl exR 2 = 3
  rise : ∀ r n, Okr r → 1 ≤ n → n ≤ 100 → dl r n ≤ dl r (n + 1)
  bd : ∀ r n, Okr r → 1 ≤ n → n ≤ 100 → 0 ≤ dl r n ∧ dl r n ≤ 2147483648
end Go.Proofs.YtmnikcnjdeldeaaDoor.rt
