/- The laws' small functions: laid. -/
import Derived.Test.YtgafjbgplcjnnaaDoorGl
namespace Go.Proofs.YtgafjbgplcjnnaaDoor.fr
open Go.RowKit Go.Joins

def vi (n : Nat) : Value := .int .i64 (n : Int)
/-- Numbers in a row of the call's own. -/
def OI (w : World) (B : Nat) (v : Value) (l : List Nat) : Prop := w.ownsRow B 3 1 v l.length (l.map vi)
theorem infoI : (Tryd.prog.info? 3).map (fun i => (i.zero, i.size, i.bytes)) = some (some (.int .i64 0), 1, 8) := by kernel_rfl
theorem OI.nil (w : World) (B : Nat) : OI w B (.slice none 0 0) [] := ⟨rfl, Or.inl ⟨rfl, rfl⟩⟩
theorem OI.keep {w w' : World} {B C : Nat} {v : Value} {l : List Nat} (h : OI w B v l) (hb : Below C w w') (hC : w.heap.size ≤ C) : OI w' B v l :=
  row_keep h (fun k hk => hb.block k (by have := (row_lt h k hk).2; omega))
theorem OI.far {w w' : World} {B : Nat} {v : Value} {l : List Nat} {row : Option Nat} (h : OI w B v l) (hg : w.grownBy w' row) (hd : ∀ k, v.ownBlock = some k → row ≠ some k) : OI w' B v l :=
  row_keep h (fun k hk => hg.block k (row_lt h k hk).2 (fun e => hd k hk e.symm))
theorem OB.far {w w' : World} {B : Nat} {v : Value} {l : List UInt8} {row : Option Nat} (h : OB w B v l) (hg : w.grownBy w' row) (hd : ∀ k, v.ownBlock = some k → row ≠ some k) : OB w' B v l :=
  row_keep h (fun k hk => hg.block k (row_lt h k hk).2 (fun e => hd k hk e.symm))

theorem wpList_append_int {w : World} {ops : Array Oper} {rest : List Oper} {o : Oper} {a : Act} {Q : Exit → Act → World → Prop} (hgd : o.guard = none) (s y : Operand)
    (ho : o.op = .call { callee := .builtin .append, args := #[s, y], argTypes := #[41, 41] })
    (w2 : World) (B : Nat) (v : Value) (l : List Nat) (n : Nat) (hw : w = w2.alloc (.cells #[vi n] 3)) (ev : a.eval s = v) (evs : a.eval y = .slice (some ⟨w2.heap.size, 0, none⟩) 1 1)
    (h : OI w2 B v l) (hsz : (l.length + 1) * 8 ≤ 140737488355328) (hB : B ≤ w2.heap.size)
    (hq : ∀ v' w', OI w' B v' (l ++ [n]) → (w2.alloc (.cells #[vi n] 3)).grownBy w' v.ownBlock → (v'.ownBlock = v.ownBlock ∨ v'.ownBlock = some (w2.heap.size + 1)) → wpList Tryd.prog ops Q rest (a.put o.dst v') w') : wpList Tryd.prog ops Q (o :: rest) a w := by
  subst hw
  refine wpList_plain hgd fun K hK => ?_
  obtain ⟨i0, hi, hz0, hz1, hz2⟩ := info_parts infoI
  have hsa : (w2.alloc (.cells #[vi n] 3)).heap.size = w2.heap.size + 1 := World.size_alloc _ _
  obtain ⟨v', w4, hr, g1, g2, _, g4⟩ := run_append_own_at (P := Tryd.prog) (w2.alloc (.cells #[vi n] 3)) B 41 o.type 3 i0 (.int .i64 0) 1 8 Tryd.underlying41 hi hz0 hz1 hz2 rfl (by decide) v l.length (l.map vi)
    (row_keep h (fun k q => Below.heap_alloc w2 _ k (row_lt h k q).2)) ⟨w2.heap.size, 0, none⟩ 1 1 [vi n] rfl
    (fun j u hu => by
      match j, hu with
      | 0, hu =>
        simp only [List.getElem?_cons_zero, Option.some.injEq] at hu
        subst hu
        show World.cell? _ ⟨w2.heap.size, 0, none⟩ = _
        rw [blk_cell (heap_alloc_new w2 _)]
        rfl)
    (fun u hu => by
      simp only [List.mem_cons, List.not_mem_nil, or_false] at hu
      rw [hu]; rfl)
    (by unfold maxLen; omega) (by omega) (by rw [hsa]; omega)
  unfold Oper.wp execOp
  simp only [ho, resolve, invoke, builtin, Sem.run_bind, Sem.run_pure, Result.andThen_ok, List.map_toArray, List.map_cons, List.map_nil, ev, evs, hr]
  refine hK _ _ (hq v' w4 ?_ g2 (by rw [← hsa]; exact g4))
  unfold OI
  rw [List.length_append, List.map_append]
  exact g1

/-- What laid answers. -/
def LdP (B : Nat) (ls : List (List UInt8)) (e : Ending) (w : World) : Prop :=
  ∃ bv av, e = .returned (.tuple #[bv, av, .bool true]) ∧ OB w B bv (frms ls) ∧ OI w B av ((List.range (ls.length + 1)).map (fat ls)) ∧ ∀ k, bv.ownBlock = some k → av.ownBlock ≠ some k
theorem frms_succ (ls : List (List UInt8)) (k : Nat) (hk : k < ls.length) (x : List UInt8) (h : ls[k]? = some x) : frms (ls.take (k + 1)) = frms (ls.take k) ++ frm x := by
  rw [List.take_succ_eq_append_getElem hk, frms_append, getE hk h]; simp [frms]
theorem range_fat (ls : List (List UInt8)) (k : Nat) : (List.range (k + 1)).map (fat ls) = (List.range k).map (fat ls) ++ [fat ls k] := by
  rw [List.range_succ, List.map_append]; rfl

set_option maxRecDepth 100000 in
set_option maxHeartbeats 1600000 in
theorem laid_any {a : Addr} {G : World → Prop} (K : FrameOK a G) (ls : List (List UInt8)) (v : Value) (w : World) (hG : G w) (h : LS w v ls) (hs : ∀ p ∈ ls, p.length ≤ 4194304) (ht : (frms ls).length < 134217728) :
    Calls Tryd.prog 23 #[v] w fun e w' => LdP w.heap.size ls e w' ∧ Below w.heap.size w w' := by
  have HK := hide K
  have HG := hide hG
  have HL := hide h
  have HS := hide hs
  obtain ⟨oa, c, rfl, h1, h2, h3⟩ := h.form
  have mx : ls.length ≤ 134217728 := by
    have : ∀ k, k ≤ ls.length → k ≤ fat ls k := by
      intro k
      induction k with
      | zero => intro _; omega
      | succ k ih => intro q; have := ih (by omega); have := fat_succ ls k (by omega); omega
    have := this ls.length (Nat.le_refl _)
    rw [fat_all] at this
    omega
  clear h h3 K hG hs
  go_enter Tryd.func23, Tryd.ntmps23
  go_wp2
  go_loopw [5, 6, 7] (fun ov av iv wr => ∃ k : Nat, k ≤ ls.length ∧ iv = .int .i64 (k : Int) ∧ Hid (OB wr w.heap.size ov (frms (ls.take k))) ∧ Hid (OI wr w.heap.size av ((List.range k).map (fat ls))) ∧ Hid (∀ q, ov.ownBlock = some q → av.ownBlock ≠ some q) ∧ Hid (Below w.heap.size w wr)) (fun _ _ iv _ => ls.length - (intOf iv).toNat)
  case atStart => exact ⟨0, by omega, rfl, by rw [List.take_zero]; exact OB.nil _ _, OI.nil _ _, (fun q hq => by cases hq), Below.refl _ _⟩
  case round =>
    obtain ⟨k, hk, rfl, hO, hI, hD, hB⟩ := hrel
    obtain ⟨oo, oc, ho⟩ := (unhide hO).form
    replace ho : u5 = .slice oo (fat ls k) oc := ho
    subst ho
    have hfl : fat ls k ≤ (frms ls).length := by rw [← fat_all]; exact fat_mono ls k ls.length hk (Nat.le_refl _)
    by_cases hc : k < ls.length
    · have e1 : (k : Int) < (ls.length : Int) := by omega
      have e0 : (0 : Int) ≤ (k : Int) := by omega
      obtain ⟨a0, x, ox, cx, ha0, hx, hcell, hbs⟩ := ((unhide HL).form).elim fun _ q => q.elim fun _ q => by
        obtain ⟨q1, q2, q3, q4⟩ := q
        cases q1
        exact q4 k hc
      subst ha0
      have hxl : x.length ≤ 4194304 := unhide HS x (List.mem_iff_getElem?.mpr ⟨k, hx⟩)
      have HX := hide hx
      have HC := hide hcell
      have HBX := hide hbs
      clear hx hcell hbs
      go_wp2_with (at_builtin; refine wpList_append_int rfl _ _ rfl wr w.heap.size u6 _ (fat ls k) rfl rfl rfl (unhide hI) ?a1 (unhide hB).size ?_)
      case a1 => rw [List.length_map, List.length_range]; omega
      intro av2 w2 i2 g2 d2
      have k1 := hide ((Below.refl wr.heap.size wr).alloc (Nat.le_refl _) (.cells #[vi (fat ls k)] 3))
      have hIge : ∀ q, u6.ownBlock = some q → w.heap.size ≤ q := fun q hq => (row_lt (unhide hI) q hq).1
      have B2 := hide (((unhide hB).trans ((unhide k1).mono (unhide hB).size)).grown g2 (Nat.le_trans (unhide hB).size (unhide k1).size) hIge)
      have O2 := hide (((unhide hO).keep (unhide k1) (unhide hO).lt).far g2 (fun q hq => unhide hD q hq))
      have D2 : Hid (∀ q, (Value.slice oo (fat ls k) oc).ownBlock = some q → av2.ownBlock ≠ some q) := fun q hq => by
        rcases d2 with d2 | d2
        · rw [d2]; exact unhide hD q hq
        · rw [d2]; intro z; have := (unhide hO).lt q hq; cases z; omega
      have I2 := hide (show OI w2 w.heap.size av2 ((List.range (k + 1)).map (fat ls)) by rw [range_fat]; exact i2)
      have S2 := hide ((unhide HBX).keep (unhide B2))
      have cc : w2.cell? (a0.add k) = some (.slice ox x.length cx) := by rw [(unhide B2).cell (cell_lt' (unhide HC))]; exact unhide HC
      have C2 := hide ((unhide HK).wrap x _ w2 ((unhide HK).keep _ _ (unhide HG) (unhide B2)) (unhide S2) hxl)
      clear hO hI hD hB g2 d2 i2 k1 hIge S2
      go_wp2_with fail
      refine (unhide C2).mono ?_
      rintro e w3 ⟨r3, rfl, o3, b3⟩
      obtain ⟨o3a, o3c, ho3⟩ := o3.form
      rw [frm_length] at ho3
      subst ho3
      have B3 := hide ((unhide B2).trans (b3.mono (unhide B2).size))
      have O3 := hide ((unhide O2).keep b3 (unhide O2).lt)
      have I3 := hide ((unhide I2).keep b3 (Nat.le_refl _))
      have S3 := hide o3.bs
      have cc3 : w3.cell? (a0.add k) = some (.slice ox x.length cx) := by rw [b3.cell (cell_lt' cc)]; exact cc
      have hne : ((x.length : Int) + 12 != (x.length : Int) + 12) = false := by simp
      have hw12 : IntKind.i64.wrap ((x.length : Int) + 12) = (x.length : Int) + 12 := IntWalk.i64_in _ ⟨by omega, by omega⟩
      have LT3 := hide (fun q hq => (row_lt (unhide I3) q hq).2)
      clear C2 o3 b3 cc B2 O2 I2
      have hfs := hide (fat_succ ls k hc)
      have hfx := hide (getE hc (unhide HX))
      have hf1 : fat ls (k + 1) ≤ (frms ls).length := by rw [← fat_all]; exact fat_mono ls (k + 1) ls.length hc (Nat.le_refl _)
      go_wp2_with (at_builtin; refine wpList_append_bytes rfl _ _ rfl w.heap.size _ _ _ _ rfl rfl (unhide O3) (unhide S3) ?a1 (unhide B3).size ?_)
      case a1 => rw [frm_length]; show fat ls k + _ ≤ _; omega
      intro v4 w4 o4 g4 d4
      have B4 := hide ((unhide O3).bl g4 (unhide B3) (unhide B3).size (Nat.le_refl _))
      have I4 := hide ((unhide I3).far g4 (fun q hq z => unhide D2 q z hq))
      have D4 : Hid (∀ q, v4.ownBlock = some q → av2.ownBlock ≠ some q) := fun q hq => by
        rcases d4 with d4 | d4
        · rw [d4] at hq; exact unhide D2 q hq
        · rw [d4] at hq; cases hq; intro z; have := unhide LT3 _ z; omega
      have O4 := hide (show OB w4 w.heap.size v4 (frms (ls.take (k + 1))) by rw [frms_succ ls k hc x (unhide HX)]; exact o4)
      clear o4 g4 d4 B3 O3 I3 S3 D2 LT3 cc3
      go_wp2
      exact ⟨⟨k + 1, by omega, by go_num, O4, I4, D4, B4⟩, by simp [intOf]; omega⟩
    · have e1 : ¬ (k : Int) < (ls.length : Int) := by omega
      obtain rfl : k = ls.length := by omega
      go_wp2_with (at_builtin; refine wpList_append_int rfl _ _ rfl wr w.heap.size u6 _ (fat ls ls.length) rfl rfl rfl (unhide hI) ?a1 (unhide hB).size ?_)
      case a1 => omega
      intro av2 w2 i2 g2 d2
      have k1 := hide ((Below.refl wr.heap.size wr).alloc (Nat.le_refl _) (.cells #[vi (fat ls ls.length)] 3))
      have hIge : ∀ q, u6.ownBlock = some q → w.heap.size ≤ q := fun q hq => (row_lt (unhide hI) q hq).1
      have B2 := hide (((unhide hB).trans ((unhide k1).mono (unhide hB).size)).grown g2 (Nat.le_trans (unhide hB).size (unhide k1).size) hIge)
      have O2 := hide (((unhide hO).keep (unhide k1) (unhide hO).lt).far g2 (fun q hq => unhide hD q hq))
      have D2 : Hid (∀ q, (Value.slice oo (fat ls ls.length) oc).ownBlock = some q → av2.ownBlock ≠ some q) := fun q hq => by
        rcases d2 with d2 | d2
        · rw [d2]; exact unhide hD q hq
        · rw [d2]; intro z; have := (unhide hO).lt q hq; cases z; omega
      have I2 := hide (show OI w2 w.heap.size av2 ((List.range (ls.length + 1)).map (fat ls)) by rw [range_fat]; exact i2)
      have O2' := hide (show OB w2 w.heap.size (Value.slice oo (fat ls ls.length) oc) (frms ls) by have := unhide O2; rwa [List.take_length] at this)
      clear hO hI hD hB g2 d2 i2 k1 hIge O2
      go_wp2
      refine bodyPost_ret (results_tmp3 rfl _ _ _) rfl ?_
      exact ⟨⟨_, _, rfl, unhide O2', unhide I2, unhide D2⟩, unhide B2⟩

end Go.Proofs.YtgafjbgplcjnnaaDoor.fr
