/- RuleNames answers true, if the calls answer as is asked. -/
import Derived.Test.YthpnclhfooileaaGreatDoorJk
import Derived.Deep.Cut
namespace Go.Proofs.YthpnclhfooileaaGreatDoor.ru
open Go.RowKit Go.Joins

def xB : ByteArray := ⟨#[120]⟩
/-- The first texts written over. -/
def xk (L : List ByteArray) : Nat → List ByteArray
  | 0 => L
  | i + 1 => (xk L i).set i xB
theorem xk_len (L : List ByteArray) (i : Nat) : (xk L i).length = L.length := by
  induction i with
  | zero => rfl
  | succ i ih => unfold xk; rw [List.length_set, ih]
theorem xk_get (L : List ByteArray) (i j : Nat) (h : i ≤ j) (hj : j < L.length) : (xk L i)[j]'(by rw [xk_len]; exact hj) = L[j] := by
  induction i with
  | zero => rfl
  | succ i ih =>
    have := ih (by omega)
    unfold xk
    rw [List.getElem_set_ne (by omega)]
    exact this
/-- What Names answers: a list of the call's own. -/
def NamesOK (G : World → Prop) (f : FuncId) (L : List ByteArray) : Prop := ∀ w, G w → Calls Tryz.prog f #[] w fun e w' => ∃ v, e = .returned v ∧ OS w' w.heap.size v L ∧ Below w.heap.size w w'

/-- Three lists apart from each other. -/
structure Three (w w1 wr : World) (L La : List ByteArray) (ga ca gb cb gw cw : Nat) : Prop where
  a : OS wr w1.heap.size (.slice (some ⟨ga, 0, none⟩) L.length ca) La
  b : OS wr w1.heap.size (.slice (some ⟨gb, 0, none⟩) L.length cb) L
  c : OS wr w1.heap.size (.slice (some ⟨gw, 0, none⟩) L.length cw) L
  ab : ga ≠ gb
  ac : ga ≠ gw
  bc : gb ≠ gw
  la : w1.heap.size ≤ ga ∧ ga < wr.heap.size
  lb : w1.heap.size ≤ gb ∧ gb < wr.heap.size
  lc : w1.heap.size ≤ gw ∧ gw < wr.heap.size
  below : Below w.heap.size w wr
  sz : w.heap.size ≤ w1.heap.size
theorem Three.drewN {w w1 wr : World} {L La : List ByteArray} {ga ca gb cb gw cw : Nat} (h : Three w w1 wr L La ga ca gb cb gw cw) (n : Nat) : Three w w1 (wr.drewN n) L La ga ca gb cb gw cw :=
  ⟨h.a, h.b, h.c, h.ab, h.ac, h.bc, h.la, h.lb, h.lc, h.below.trans ⟨rfl, rfl, rfl, Nat.le_refl _, fun _ _ => rfl⟩, h.sz⟩
theorem Three.set {w w1 wr : World} {L La : List ByteArray} {ga ca gb cb gw cw : Nat} (h : Three w w1 wr L La ga ca gb cb gw cw) (j : Nat) (x : ByteArray) : Three w w1 (wr.setCell ⟨ga, j, none⟩ (.string x)) L (La.set j x) ga ca gb cb gw cw := by
  have hu := Upd.setCell ga j wr (.string x)
  refine ⟨h.a.set j x, h.b.move (hu.block _ (fun z => h.ab z.symm)), h.c.move (hu.block _ (fun z => h.ac z.symm)), h.ab, h.ac, h.bc, ?_, ?_, ?_, upd_below hu h.below (by have := h.la; have := h.sz; omega), h.sz⟩
  · rw [hu.size]; exact h.la
  · rw [hu.size]; exact h.lb
  · rw [hu.size]; exact h.lc
theorem Three.start {w w1 w2 w3 w4 : World} {L : List ByteArray} {ga ca gb cb gw cw : Nat} (hb1 : Below w.heap.size w w1)
    (a : OS w2 w1.heap.size (.slice (some ⟨ga, 0, none⟩) L.length ca) L) (la : w1.heap.size ≤ ga ∧ ga < w2.heap.size) (hb2 : Below w1.heap.size w1 w2)
    (b : OS w3 w2.heap.size (.slice (some ⟨gb, 0, none⟩) L.length cb) L) (lb : w2.heap.size ≤ gb ∧ gb < w3.heap.size) (hb3 : Below w2.heap.size w2 w3)
    (c : OS w4 w3.heap.size (.slice (some ⟨gw, 0, none⟩) L.length cw) L) (lc : w3.heap.size ≤ gw ∧ gw < w4.heap.size) (hb4 : Below w3.heap.size w3 w4) : Three w w1 w4 L L ga ca gb cb gw cw := by
  have z2 := hb2.size
  have z3 := hb3.size
  have z4 := hb4.size
  refine ⟨(a.move (hb3.block _ la.2)).move (hb4.block _ (by omega)), (OS.mono b (by omega)).move (hb4.block _ lb.2), OS.mono c (by omega), by omega, by omega, by omega, by omega, by omega, by omega, ?_, hb1.size⟩
  have e2 := hb1.trans (hb2.mono hb1.size)
  have e3 := e2.trans (hb3.mono e2.size)
  exact e3.trans (hb4.mono e3.size)

theorem keepC {W w1 : World} (hb : Below W.heap.size W w1) {b o : Nat} {v : Value} (h : W.cell? ⟨b, o, none⟩ = some v) : w1.cell? ⟨b, o, none⟩ = some v := by
  rw [hb.cell (p := ⟨b, o, none⟩) (World.block_lt_of_cell? _ _ h)]; exact h
def yB : ByteArray := ⟨#[121]⟩
def zB : ByteArray := ⟨#[122]⟩
/-- The first list grown by one; the other two as they were. -/
structure Grown (w w1 wr : World) (L : List ByteArray) (gx cx gb cb gw cw : Nat) : Prop where
  x : wr.cell? ⟨gx, L.length, none⟩ = some (.string yB)
  b : OS wr w1.heap.size (.slice (some ⟨gb, 0, none⟩) L.length cb) L
  c : OS wr w1.heap.size (.slice (some ⟨gw, 0, none⟩) L.length cw) L
  xb : gx ≠ gb
  bc : gb ≠ gw
  lx : gx < wr.heap.size
  lb : w1.heap.size ≤ gb ∧ gb < wr.heap.size
  lc : w1.heap.size ≤ gw ∧ gw < wr.heap.size
  below : Below w.heap.size w wr
  sz : w.heap.size ≤ w1.heap.size
  cap : L.length + 1 ≤ cx
theorem OS.cap {w : World} {B g n cap : Nat} {l : List ByteArray} (h : OS w B (.slice (some ⟨g, 0, none⟩) n cap) l) : n = l.length ∧ n ≤ cap := by
  obtain ⟨hl, ⟨h1, h0⟩ | ⟨g', cap', cur, h1, hb, hg, hc, hm, hs, ht⟩⟩ := h
  · cases h1
  · injection h1 with h2 h3 h4
    subst h3 h4
    exact ⟨rfl, hc⟩
theorem Three.grow {w w1 wr w5 : World} {L La : List ByteArray} {ga ca gb cb gw cw : Nat} (h : Three w w1 wr L La ga ca gb cb gw cw) (hLa : La.length = L.length) (o : Obj) (v' : Value) (hO : OS w5 w1.heap.size v' (La ++ [yB]))
    (hloc : Loc (wr.alloc o) w5 (.slice (some ⟨ga, 0, none⟩) L.length ca) v' L.length) :
    ∃ gx cx, v' = .slice (some ⟨gx, 0, none⟩) (L.length + 1) cx ∧ Grown w w1 w5 L gx cx gb cb gw cw := by
  obtain ⟨gx, cx, rfl, hx1, hx2⟩ := hO.form (by simp)
  have hlen : (La ++ [yB]).length = L.length + 1 := by simp [hLa]
  have hcx := hO.cap
  rw [hlen] at hcx
  have hxc : w5.cell? ⟨gx, L.length, none⟩ = some (.string yB) := by
    have := hO.cells L.length (by omega)
    rw [this]
    congr 2
    rw [List.getElem_append_right (by omega)]
    simp [hLa]
  have ea : ∀ k, k < wr.heap.size → (wr.alloc o).heap[k]? = wr.heap[k]? := fun k hk => Below.heap_alloc wr o k hk
  have zs : (wr.alloc o).heap.size = wr.heap.size + 1 := World.size_alloc _ _
  have hba : Below w.heap.size w (wr.alloc o) := h.below.alloc h.below.size o
  refine ⟨gx, cx, by rw [hlen], ?_⟩
  have hla := h.la
  have hlb := h.lb
  have hlc := h.lc
  have hsz := h.sz
  rcases hloc with ⟨g, cap, e1, e2, hg⟩ | ⟨hg, hq⟩
  · simp only [Value.slice.injEq, Option.some.injEq, Addr.mk.injEq, and_true, true_and] at e1 e2
    obtain ⟨rfl, _⟩ := e1
    obtain ⟨rfl, _⟩ := e2
    have hgs := hg.size
    refine ⟨hxc, h.b.move ((hg.block gb (by omega) (fun z => h.ab (Option.some.inj z).symm)).trans (ea gb (by omega))), h.c.move ((hg.block gw (by omega) (fun z => h.ac (Option.some.inj z).symm)).trans (ea gw (by omega))), h.ab, h.bc, hx2, by omega, by omega, ?_, hsz, hcx.2⟩
    exact hba.grown hg (by omega) (fun k hk => by cases hk; omega)
  · have hgx := hq gx rfl
    have hgs := hg.size
    refine ⟨hxc, h.b.move ((hg.block gb (by omega) (fun z => by cases z)).trans (ea gb (by omega))), h.c.move ((hg.block gw (by omega) (fun z => by cases z)).trans (ea gw (by omega))), by omega, h.bc, hx2, by omega, by omega, ?_, hsz, hcx.2⟩
    exact hba.grown hg (by omega) (fun k hk => by cases hk)
/-- Both lists grown; what can be read. -/
structure Fin4 (w wr : World) (L : List ByteArray) (gx cx gb gw gz cz : Nat) : Prop where
  x : wr.cell? ⟨gx, L.length, none⟩ = some (.string yB)
  z : wr.cell? ⟨gz, L.length, none⟩ = some (.string zB)
  b : ∀ j (h : j < L.length), wr.cell? ⟨gb, j, none⟩ = some (.string L[j])
  c : ∀ j (h : j < L.length), wr.cell? ⟨gw, j, none⟩ = some (.string L[j])
  below : Below w.heap.size w wr
  capx : L.length + 1 ≤ cx
  capz : L.length + 1 ≤ cz
theorem Grown.grow {w w1 wr w5 : World} {L : List ByteArray} {gx cx gb cb gw cw : Nat} (h : Grown w w1 wr L gx cx gb cb gw cw) (o : Obj) (v' : Value) (hO : OS w5 w1.heap.size v' (L ++ [zB]))
    (hloc : Loc (wr.alloc o) w5 (.slice (some ⟨gb, 0, none⟩) L.length cb) v' L.length) :
    ∃ gz cz, v' = .slice (some ⟨gz, 0, none⟩) (L.length + 1) cz ∧ Fin4 w w5 L gx cx gb gw gz cz := by
  obtain ⟨gz, cz, rfl, hx1, hx2⟩ := hO.form (by simp)
  have hlen : (L ++ [zB]).length = L.length + 1 := by simp
  have hcz := hO.cap
  rw [hlen] at hcz
  have hzc : w5.cell? ⟨gz, L.length, none⟩ = some (.string zB) := by
    have := hO.cells L.length (by omega)
    rw [this]
    congr 2
    simp
  have ea : ∀ k, k < wr.heap.size → (wr.alloc o).heap[k]? = wr.heap[k]? := fun k hk => Below.heap_alloc wr o k hk
  have zs : (wr.alloc o).heap.size = wr.heap.size + 1 := World.size_alloc _ _
  have hba : Below w.heap.size w (wr.alloc o) := h.below.alloc h.below.size o
  have hlb := h.lb
  have hlc := h.lc
  have hlx := h.lx
  have hsz := h.sz
  refine ⟨gz, cz, by rw [hlen], ?_⟩
  have cl : ∀ {k : Nat} {x : Option Nat} (hg : (wr.alloc o).grownBy w5 x) (hk : k < wr.heap.size) (hne : some k ≠ x) (j : Nat), w5.cell? ⟨k, j, none⟩ = wr.cell? ⟨k, j, none⟩ := fun {k x} hg hk hne j => by
    simp only [World.cell?, hg.block k (by omega) hne, ea k hk]
  rcases hloc with ⟨g, cap, e1, e2, hg⟩ | ⟨hg, hq⟩
  · simp only [Value.slice.injEq, Option.some.injEq, Addr.mk.injEq, and_true, true_and] at e1 e2
    obtain ⟨rfl, _⟩ := e1
    obtain ⟨rfl, _⟩ := e2
    refine ⟨?_, hzc, fun j hj => ?_, fun j hj => ?_, hba.grown hg (by omega) (fun k hk => by cases hk; omega), h.cap, hcz.2⟩
    · rw [cl hg hlx (fun z => h.xb (Option.some.inj z))]; exact h.x
    · rw [hO.cells j (by omega), List.getElem_append_left hj]
    · rw [cl hg hlc.2 (fun z => h.bc (Option.some.inj z).symm)]; exact h.c.cells j hj
  · refine ⟨?_, hzc, fun j hj => ?_, fun j hj => ?_, hba.grown hg (by omega) (fun k hk => by cases hk), h.cap, hcz.2⟩
    · rw [cl hg hlx (fun z => by cases z)]; exact h.x
    · rw [cl hg hlb.2 (fun z => by cases z)]; exact h.b.cells j hj
    · rw [cl hg hlc.2 (fun z => by cases z)]; exact h.c.cells j hj

set_option maxRecDepth 100000 in
set_option maxHeartbeats 6400000 in
theorem names_any {G : World → Prop} (K : RuleOK G) (L : List ByteArray) (hL0 : L ≠ []) (hL : L.length ≤ 100000) (N : NamesOK G 7 L) (R : NamesOK (fun _ => True) 8 L)
    (k : Int) (w : World) (hG : G w) (hk0 : -9223372036854775808 ≤ k) (hk1 : k ≤ 9223372036854775807) :
    Calls Tryz.prog 3 #[.int .i64 k] w fun e w' => e = .returned (.bool true) ∧ Below w.heap.size w w' := by
  have C0 := hide (K.awk w hG)
  have CN := hide N
  have CR := hide R
  have HK := hide K.keep
  have HG := hide hG
  have hL1 : 0 < L.length := List.length_pos_iff.2 hL0
  clear K N R hG
  go_enter Tryz.func3, Tryz.ntmps3
  go_wp2_with fail
  refine (unhide C0).mono ?_
  rintro e w1 ⟨rfl, hb1⟩
  have g1 := unhide HK _ _ (unhide HG) hb1
  clear C0
  go_wp2_with fail
  refine (unhide CN w1 g1).mono ?_
  rintro e w2 ⟨va, rfl, ha, hb2⟩
  obtain ⟨ga, ca, rfl, la⟩ := ha.form hL0
  have g2 := unhide HK _ _ g1 hb2
  go_wp2_with fail
  refine (unhide CN w2 g2).mono ?_
  rintro e w3 ⟨vb', rfl, hb, hb3⟩
  obtain ⟨gb, cb, rfl, lb⟩ := hb.form hL0
  have g3 := unhide HK _ _ g2 hb3
  go_wp2_with fail
  refine (unhide CR w3 trivial).mono ?_
  rintro e w4 ⟨vw, rfl, hc, hb4⟩
  obtain ⟨gw, cw, rfl, lc⟩ := hc.form hL0
  have g4 := unhide HK _ _ g3 hb4
  have HT := hide (Three.start hb1 ha la hb2 hb lb hb3 hc lc hb4)
  have HGk := hide (show ∀ wr, Below w.heap.size w wr → G wr from fun wr h => unhide HK _ _ (unhide HG) h)
  clear g1 g2 g3 g4 hb1 hb2 hb3 hb4 ha hb hc la lb lc HK HG CR hL0
  go_wp2
  go_loopw [7] (fun i wr => ∃ q : Nat, i = .int .i64 (q : Int) ∧ q ≤ L.length ∧ Hid (Three w w1 wr L (xk L q) ga ca gb cb gw cw)) (fun i _ => L.length - (intOf i).toNat)
  case atStart => exact ⟨0, rfl, Nat.zero_le _, HT⟩
  case round =>
    clear HT
    obtain ⟨q, rfl, hq, HT⟩ := hrel
    by_cases hlt : q < L.length
    · have hlt' : (q : Int) < (L.length : Int) := by omega
      have ca0 := (unhide HT).a.cells q (by rw [xk_len]; exact hlt)
      rw [xk_get L q q (Nat.le_refl _) hlt] at ca0
      have cw0 := (unhide HT).c.cells q hlt
      have fa := (unhide HT).a.free q
      have HN := hide (fun n => ((unhide HT).drewN n).set q xB)
      unfold xB at HN
      have ca1 : ∀ n, (wr.drewN n).cell? ⟨ga, q, none⟩ = some (.string L[q]) := fun _ => ca0
      have fa1 : ∀ n, (wr.drewN n).frozen? ⟨ga, q, none⟩ = false := fun _ => fa
      generalize L[q] = lq at *
      go_wp2_with fail
      go_quiet (fail)
      go_wp2
      exact ⟨⟨q + 1, by go_num, by omega, unhide HN _⟩, by simp [intOf]; omega⟩
    · have hlt' : ¬ (q : Int) < (L.length : Int) := by omega
      have hql : q = L.length := by omega
      subst hql
      have A1 := hide ((unhide HT).a.move (Below.heap_alloc wr (.cells #[.string ⟨#[121]⟩] 9) ga (unhide HT).la.2))
      have hx1 := (unhide HT).below.size
      have hx2 := (unhide HT).la
      have hx3 := xk_len L L.length
      have e1 : (wr.alloc (.cells #[.string ⟨#[121]⟩] 9)).cell? ⟨wr.heap.size, 0, none⟩ = some (vs yB) := blk_cell (heap_alloc_new wr _) 0
      go_wp2_with (at_builtin; refine wpList_append_text rfl _ _ rfl w1.heap.size _ _ yB ⟨wr.heap.size, 0, none⟩ 1 rfl rfl (unhide A1) e1 ?c1 ?c2 ?_)
      case c1 => omega
      case c2 => omega
      intro v' w5 hO hloc
      obtain ⟨gx, cx, rfl, hGr⟩ := (unhide HT).grow (xk_len L _) _ v' hO hloc
      have HGr := hide hGr
      clear hO hloc hGr A1 e1 HT hx1 hx2 hx3
      have B1 := hide ((unhide HGr).b.move (Below.heap_alloc w5 (.cells #[.string ⟨#[122]⟩] 9) gb (unhide HGr).lb.2))
      have hy1 := (unhide HGr).lb
      have e1 : (w5.alloc (.cells #[.string ⟨#[122]⟩] 9)).cell? ⟨w5.heap.size, 0, none⟩ = some (vs zB) := blk_cell (heap_alloc_new w5 _) 0
      go_wp2_with (at_builtin; refine wpList_append_text rfl _ _ rfl w1.heap.size _ _ zB ⟨w5.heap.size, 0, none⟩ 1 rfl rfl (unhide B1) e1 ?d1 ?d2 ?_)
      case d1 => omega
      case d2 => first | omega | (rw [World.size_alloc]; omega)
      intro v2 w6 hO hloc
      obtain ⟨gz, cz, rfl, hF⟩ := (unhide HGr).grow _ v2 hO hloc
      have HF := hide hF
      clear hO hloc hF B1 e1 HGr hy1
      go_wp2
      go_loopw [10] (fun i wr => ∃ q t : Nat, i = .int .i64 (q : Int) ∧ q ≤ L.length ∧ wr = w6.drewN t) (fun i _ => L.length - (intOf i).toNat)
      case atStart => exact ⟨0, 0, rfl, Nat.zero_le _, rfl⟩
      case round =>
        obtain ⟨q, t, rfl, hq, rfl⟩ := hrel
        by_cases hlt : q < L.length
        · have hlt' : (q : Int) < (L.length : Int) := by omega
          have cb0 := (unhide HF).b q hlt
          have cw0 := (unhide HF).c q hlt
          generalize L[q] = lq at *
          go_wp2_with fail
          go_quiet (fail)
          go_wp2
          exact ⟨⟨q + 1, _, by go_num, by omega, rfl⟩, by simp [intOf]; omega⟩
        · have hlt' : ¬ (q : Int) < (L.length : Int) := by omega
          have HBd : Hid (Below w.heap.size w (w6.drewN t)) := (unhide HF).below.trans ⟨rfl, rfl, rfl, Nat.le_refl _, fun _ _ => rfl⟩
          have CC := hide (unhide CN (w6.drewN t) (unhide HGk _ (unhide HBd)))
          clear CN HGk
          go_wp2_with fail
          refine (unhide CC).mono ?_
          rintro e w8 ⟨vc, rfl, hc, hb8⟩
          obtain ⟨gc, cc, rfl, lc⟩ := hc.form (List.length_pos_iff.1 hL1)
          have kx := keepC hb8 (b := gx) (o := L.length) (v := .string yB) (unhide HF).x
          have kz := keepC hb8 (b := gz) (o := L.length) (v := .string zB) (unhide HF).z
          have kw := hide (fun j h => keepC hb8 (b := gw) (o := j) (v := .string (L[j]'h)) ((unhide HF).c j h))
          have kc := hide (fun j h => hc.cells j h)
          have HB8 := hide ((unhide HBd).trans (hb8.mono (unhide HBd).size))
          have hcx := (unhide HF).capx
          have hcz := (unhide HF).capz
          have hcc := hc.cap.2
          unfold yB at kx
          unfold zB at kz
          clear CC hc hb8 HBd HF
          have hN : Hid (∀ n, Below w.heap.size w (w8.drewN n)) := fun n => (unhide HB8).trans ⟨rfl, rfl, rfl, Nat.le_refl _, fun _ _ => rfl⟩
          clear HB8
          by_cases hk : k < 0
          · go_wp2_with fail
            go_quiet (fail)
            go_wp2
            go_ret
            exact ⟨rfl, unhide hN _⟩
          · have hk' : decide (k < 0) = false := decide_eq_false hk
            by_cases hkn : (L.length : Int) ≤ k
            · go_wp2_with fail
              go_quiet (fail)
              go_wp2
              go_ret
              exact ⟨rfl, unhide hN _⟩
            · obtain ⟨j, rfl⟩ : ∃ j : Nat, k = (j : Int) := ⟨k.toNat, by omega⟩
              have hjn : j < L.length := by omega
              have kw0 := unhide kw j hjn
              have kc0 := unhide kc j hjn
              have hkn' : decide ((L.length : Int) ≤ (j : Int)) = false := decide_eq_false hkn
              have hj1 : (j : Int) < (L.length : Int) := by omega
              have hl1 : (L.length : Int) < (L.length : Int) + 1 := by omega
              generalize L[j] = lj at *
              go_wp2_with fail
              go_quiet (fail)
              go_wp2
              go_ret
              exact ⟨rfl, unhide hN _⟩
end Go.Proofs.YthpnclhfooileaaGreatDoor.ru
