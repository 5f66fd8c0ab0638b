/- The contract of the reference's told. -/
import Derived.Test.YtgmjllkkgapjcaaDoorDi
import Derived.Laws.BytesArg
namespace Go.Proofs.YtgmjllkkgapjcaaDoor.rd
open Go.RowKit

/-- How many noughts a list begins with. -/
def lowN : List Int → Nat
  | [] => 0
  | z :: r => if z = 0 then lowN r + 1 else 0
theorem lowN_eq (us : List Int) (k : Nat) (h1 : ∀ i, i < k → us.getD i 0 = 0) (h2 : us.getD k 0 ≠ 0) : lowN us = k := by
  induction us generalizing k with
  | nil => simp at h2
  | cons z r ih =>
    cases k with
    | zero =>
      have : z ≠ 0 := by simpa using h2
      simp [lowN, this]
    | succ j =>
      have hz : z = 0 := by simpa using h1 0 (by omega)
      have := ih j (fun i hi => by simpa using h1 (i + 1) (by omega)) (by simpa using h2)
      simp [lowN, hz, this]
theorem cutN_last (l : List Int) (h : cutN l ≠ []) : (cutN l).getD ((cutN l).length - 1) 0 ≠ 0 := by
  unfold cutN at h ⊢
  cases hx : l.reverse.dropWhile (· == 0) with
  | nil => rw [hx] at h; simp at h
  | cons z r =>
    have hz : ¬ (z == 0) = true := by
      have := List.head_dropWhile_not (fun x : Int => x == 0) (l := l.reverse) (by rw [hx]; simp)
      simp only [hx, List.head_cons] at this
      simpa using this
    simp
    simpa using hz

def toB (z : Int) : UInt8 := (48 + z).toNat.toUInt8
/-- The bytes that told gathers, from the upper end down to place k. -/
def tb (us : List Int) (k : Nat) : List UInt8 := ((us.drop k).reverse).map toB
def told (neg : Bool) (zs : List Int) (ex : Int) : Dn × Bool :=
  if cutN zs = [] then (zed, true)
  else if ex < -9999 - lowN (cutN zs) ∨ 9999 - lowN (cutN zs) < ex then (zed, false)
  else (⟨neg, ⟨(tb (cutN zs) (lowN (cutN zs))).toArray⟩, ex + lowN (cutN zs)⟩, true)

theorem conv_own {w : World} {B n : Nat} {v : Value} {l : List UInt8} (h : w.ownsRow B 5 1 v n (l.map vb)) (hn : l.length = n) :
    (convert 76 9 v).run Tryd.prog w = .ok (.string ⟨l.toArray⟩) w := by
  subst hn
  rcases h.2 with ⟨rfl, h0⟩ | ⟨g, cap, cur, rfl, hb, hg, hnc, hcm, hcs, htake⟩
  · obtain rfl := List.eq_nil_of_length_eq_zero h0
    exact run_convert_bytes_nil w 76 5 Tryd.underlying76 Tryd.underlying5 0 0 9 Tryd.underlying9
  · refine run_convert_bytes_back w 76 9 5 ⟨g, 0, none⟩ cap l Tryd.underlying76 Tryd.underlying5 Tryd.underlying9 (fun j hj => ?_)
    have := h.cellAt j (by omega)
    have e : (⟨g, 0, none⟩ : Addr).add j = ⟨g, j, none⟩ := by unfold Addr.add; split <;> simp_all
    rw [e, this]
    simp [hj, vb]

theorem ret_told {m : Nat} (w : World) (d : Dn) (ok : Bool) (h : DLies w m d) (tmps : Array Value) (h2 : tmps.getD 6 undef = .pointer (some ⟨m, 0, none⟩)) (h3 : tmps.getD 7 undef = .bool ok) :
    (results Tryd.f31 tmps).run Tryd.prog w = .ok (.tuple #[dv d, .bool ok]) w := by
  obtain ⟨q0, q1, q2⟩ := h.cells
  rw [results_cell_tmp Tryd.results31, h2, h3]
  simp [go_sem, q0, q1, q2, dv]

theorem told_nil (neg : Bool) (ex : Int) (w : World) :
    Calls Tryd.prog 31 #[.bool neg, .slice none 0 0, .int .i64 ex] w fun e w' => e = .returned (.tuple #[dv zed, .bool true]) ∧ Below w.heap.size w w' := by
  go_enter Tryd.func31, Tryd.ntmps31
  go_wp2_with fail
  refine (cut_nil _).mono ?_
  rintro e w1 ⟨rfl, rfl⟩
  go_wp2
  exact bodyPost_ret (ret_told _ zed true (dlies_new w zed) _ rfl rfl) rfl ⟨rfl, (Below.refl _ _).alloc (Nat.le_refl _) _⟩

def Dig10 (zs : List Int) : Prop := ∀ z ∈ zs, 0 ≤ z ∧ z ≤ 9
theorem Dig10.at {zs : List Int} (h : Dig10 zs) (j : Nat) (hj : j < zs.length) : 0 ≤ zs.getD j 0 ∧ zs.getD j 0 ≤ 9 := by
  have : zs.getD j 0 = zs[j] := by simp [hj]
  rw [this]
  exact h _ (List.getElem_mem hj)

theorem tb_step (us : List Int) (j : Nat) (h : j < us.length) : tb us j = tb us (j + 1) ++ [toB (us.getD j 0)] := by
  unfold tb
  have e : us.drop j = us.getD j 0 :: us.drop (j + 1) := by rw [List.drop_eq_getElem_cons h]; simp [h]
  rw [e, List.reverse_cons, List.map_append]
  rfl
theorem tb_end (us : List Int) : tb us us.length = [] := by unfold tb; simp
theorem tb_len (us : List Int) (k : Nat) : (tb us k).length = us.length - k := by unfold tb; simp
theorem toB_nat (z : Int) (h0 : 0 ≤ z) (h1 : z ≤ 9) : ((toB z).toNat : Int) = 48 + z := by
  unfold toB
  rw [u8_of _ (by omega)]
  omega

set_option maxRecDepth 100000 in
set_option maxHeartbeats 3200000 in
theorem told_some (neg : Bool) (g cap : Nat) (zs : List Int) (ex : Int) (w : World) (hlc : zs.length ≤ cap) (hcm : cap ≤ 9223372036854775807) (hl : zs.length ≤ 1099511627776)
    (hc : ∀ j, j < zs.length → w.cell? ⟨g, j, none⟩ = some (.int .i64 (zs.getD j 0))) (hd : Dig10 zs) (h0 : -9223372036854775808 ≤ ex) (h1 : ex ≤ 9223372036854775807) :
    Calls Tryd.prog 31 #[.bool neg, .slice (some ⟨g, 0, none⟩) zs.length cap, .int .i64 ex] w fun e w' => e = .returned (.tuple #[dv (told neg zs ex).1, .bool (told neg zs ex).2]) ∧ Below w.heap.size w w' := by
  have hlen := cutN_len zs
  have hlast := cutN_last zs
  have hcu : ∀ j, j < (cutN zs).length → w.cell? ⟨g, j, none⟩ = some (.int .i64 ((cutN zs).getD j 0)) := fun j hj => by
    rw [hc j (by omega), cutN_getD _ _ hj]
  have hdu : ∀ j, j < (cutN zs).length → 0 ≤ (cutN zs).getD j 0 ∧ (cutN zs).getD j 0 ≤ 9 := fun j hj => by
    rw [cutN_getD _ _ hj]; exact hd.at j (by omega)
  have HT : Hid (told neg zs ex = if cutN zs = [] then (zed, true)
      else if ex < -9999 - lowN (cutN zs) ∨ 9999 - lowN (cutN zs) < ex then (zed, false)
      else (⟨neg, ⟨(tb (cutN zs) (lowN (cutN zs))).toArray⟩, ex + lowN (cutN zs)⟩, true)) := rfl
  generalize told neg zs ex = res at HT ⊢
  have cc := fun w h => cut_some g cap zs w hlc hcm h
  generalize cutN zs = us at *
  have CC := hide cc
  have HC := hide hc
  have HCU := hide hcu
  have HDU := hide hdu
  have HL := hide hlast
  clear cc hc hcu hdu hlast hd
  by_cases hu : us = []
  · have hr : res = (zed, true) := by rw [HT.out, if_pos hu]
    subst hr
    have hz : us.length = 0 := by rw [hu]; rfl
    clear HT hu
    go_enter Tryd.func31, Tryd.ntmps31
    go_wp2_with fail
    refine (unhide CC _ (fun j hj => by rw [World.cell?_alloc_past _ _ _ (cell_lt (unhide HC j hj))]; exact unhide HC j hj)).mono ?_
    rintro e w1 ⟨rfl, rfl⟩
    have hz' : ((us.length : Int) == 0) = true := by simp [hz]
    go_wp2
    exact bodyPost_ret (ret_told _ zed true (dlies_new w zed) _ rfl rfl) rfl ⟨rfl, (Below.refl _ _).alloc (Nat.le_refl _) _⟩
  · have hpos : 0 < us.length := List.length_pos_iff.2 hu
    have hlst := unhide HL hu
    have hr : res = if ex < -9999 - (lowN us : Int) ∨ 9999 - (lowN us : Int) < ex then (zed, false) else (⟨neg, ⟨(tb us (lowN us)).toArray⟩, ex + lowN us⟩, true) := by rw [HT.out, if_neg hu]
    have HR := hide hr
    have HLS := hide hlst
    clear hr HT hlst HL
    have hne : ((us.length : Int) == 0) = false := by simp; omega
    clear hu
    go_enter Tryd.func31, Tryd.ntmps31
    go_wp2_with fail
    refine (unhide CC _ (fun j hj => by rw [World.cell?_alloc_past _ _ _ (cell_lt (unhide HC j hj))]; exact unhide HC j hj)).mono ?_
    rintro e w1 ⟨rfl, rfl⟩
    have HCW : Hid (∀ j, j < us.length → (w.alloc (.cells #[.bool false, .string ⟨#[]⟩, .int .i64 0] 23)).cell? ⟨g, j, none⟩ = some (.int .i64 (us.getD j 0))) := fun j hj => by
      rw [World.cell?_alloc_past _ _ _ (cell_lt (unhide HCU j hj))]; exact unhide HCU j hj
    go_wp2
    go_loop [9] (fun i => ∃ k : Nat, k < us.length ∧ i = .int .i64 k ∧ ∀ j, j < k → us.getD j 0 = 0) (fun i => us.length - (intOf i).toNat)
    case atStart => exact ⟨0, hpos, rfl, fun j hj => by omega⟩
    case round =>
      obtain ⟨k, hk, rfl, hall⟩ := hrel
      have HA := hide hall
      clear hall
      have hcell := unhide HCW k hk
      by_cases hz : us.getD k 0 = 0
      · have hk1 : k + 1 < us.length := by
          rcases Nat.lt_or_ge (k + 1) us.length with h' | h'
          · exact h'
          · exfalso
            have : us.length - 1 = k := by omega
            have h2 := unhide HLS
            rw [this] at h2
            exact h2 hz
        rw [hz] at hcell
        have HZ := hide hz
        clear hz
        go_wp2
        go_round
        case rel => exact ⟨k + 1, hk1, by go_num, fun j hj => by
          rcases Nat.lt_or_ge j k with h' | h'
          · exact unhide HA j h'
          · rw [show j = k by omega]; exact unhide HZ⟩
        case measure => simp [intOf]; omega
      · have hlow := lowN_eq us k (unhide HA) hz
        have hz' : (us.getD k 0 == 0) = false := by simpa using hz
        have HRk : Hid (res = if ex < -9999 - (k : Int) ∨ 9999 - (k : Int) < ex then (zed, false) else (⟨neg, ⟨(tb us k).toArray⟩, ex + k⟩, true)) := by
          show res = _
          rw [unhide HR, hlow]
        clear hz hlow HR
        have HCell := hide hcell
        generalize hzz : us.getD k 0 = zk at hcell hz'
        clear HCell hzz
        by_cases hb1 : ex < -9999 - (k : Int)
        · have hr : res = (zed, false) := by rw [HRk.out, if_pos (.inl hb1)]
          have HRR := hide hr
          clear hr
          go_wp2
          exact bodyPost_ret (ret_told _ zed false (dlies_new w zed) _ rfl rfl) rfl ⟨by rw [HRR.out], (Below.refl _ _).alloc (Nat.le_refl _) _⟩
        · by_cases hb2 : 9999 - (k : Int) < ex
          · have hr : res = (zed, false) := by rw [HRk.out, if_pos (.inr hb2)]
            have HRR := hide hr
            clear hr
            go_wp2
            exact bodyPost_ret (ret_told _ zed false (dlies_new w zed) _ rfl rfl) rfl ⟨by rw [HRR.out], (Below.refl _ _).alloc (Nat.le_refl _) _⟩
          · have hr : res = (⟨neg, ⟨(tb us k).toArray⟩, ex + k⟩, true) := by rw [HRk.out, if_neg (by omega)]
            have HRR := hide hr
            clear hr HRk
            obtain ⟨i0, hi, hz0, hz1, hz2⟩ := info_parts info5
            have hlu : us.length ≤ 1099511627776 := by omega
            go_wp2
            go_loopw [10, 11] (fun v i wr => ∃ m : Nat, k ≤ m ∧ m ≤ us.length ∧ i = .int .i64 ((m : Int) - 1) ∧ wr.ownsRow (w.heap.size + 1) 5 1 v (tb us m).length ((tb us m).map vb) ∧ Below (w.heap.size + 1) (w.alloc (.cells #[.bool false, .string ⟨#[]⟩, .int .i64 0] 23)) wr)
              (fun _ i _ => (intOf i + 1 - k).toNat)
            case atStart => exact ⟨us.length, by omega, Nat.le_refl _, rfl, by rw [tb_end]; exact World.ownsRow_nil _ _ _ _, Below.refl _ _⟩
            case round =>
              obtain ⟨m, hkm, hmu, rfl, hown, hbel⟩ := hrel
              by_cases hmk : m = k
              · subst hmk
                have hcv := conv_own hown rfl
                have l1 : DLies wr w.heap.size zed := (hbel.block _ (by omega)).trans (dlies_new w zed)
                obtain ⟨q0, q1, q2⟩ := l1.cells
                obtain ⟨f0, f1, f2⟩ := l1.frees
                have hbb : Below w.heap.size w wr := ((Below.refl _ _).alloc (Nat.le_refl _) _).trans (hbel.mono (by omega))
                have hge : ¬ ((m : Int) ≤ (m : Int) - 1) := by omega
                clear hown hbel
                generalize (⟨(tb us m).toArray⟩ : ByteArray) = bs at *
                go_wp2
                exact bodyPost_ret (ret_told _ _ true (l1.set neg bs _) _ rfl rfl) rfl ⟨by rw [HRR.out], below3 hbb (Nat.le_refl _) _ _ _⟩
              · obtain ⟨j, rfl⟩ : ∃ j, m = j + 1 := ⟨m - 1, by omega⟩
                have hju : j < us.length := by omega
                have hcell : wr.cell? ⟨g, j, none⟩ = some (.int .i64 (us.getD j 0)) := by
                  rw [hbel.cell (by show g < _; have := cell_lt (unhide HCU j hju); omega)]; exact unhide HCW j hju
                obtain ⟨z1, z2⟩ := unhide HDU j hju
                have HTB := hide (tb_step us j hju)
                have htl := tb_len us (j + 1)
                have HB0 := hide (toB_nat _ z1 z2)
                generalize us.getD j 0 = z at *
                rw [show ((j + 1 : Nat) : Int) - 1 = (j : Int) by omega]
                have HTL := hide htl
                have htl2 : (tb us (j + 1)).length ≤ 1099511627776 := by omega
                clear htl
                go_wp2_with (at_builtin; refine wpList_append_own _ rfl _ _ 76 rfl (w.heap.size + 1) 5 i0 (.int .u8 0) 1 1 Tryd.underlying76 hi hz0 hz1 hz2 rfl (by decide) _ _ _ rfl (hown.alloc _) ⟨wr.heap.size, 0, none⟩ 1 1 [.int .u8 (48 + z)] rfl rfl ?c1 ?c2 ?c3 ?c4 ?c5 ?_)
                case c1 =>
                  intro i u hi
                  match i, hi with
                  | 0, hi => simp at hi; subst hi; simp [Addr.add]
                case c2 => intro u hu; simp at hu; subst hu; rfl
                case c3 => unfold maxLen; omega
                case c4 => omega
                case c5 => have := hbel.size; simp at this ⊢; omega
                intro v' w1 hown1 hgrow1 _
                go_wp2
                go_roundw
                case rel =>
                  have e : (tb us j).length = (tb us (j + 1)).length + 1 := by rw [HTB.out]; simp
                  have e2 : (tb us j).map vb = (tb us (j + 1)).map vb ++ [.int .u8 (48 + z)] := by rw [HTB.out]; simp [vb, unhide HB0]
                  have hsz := hbel.size
                  simp at hsz
                  exact ⟨j, by omega, by omega, by go_num, by rw [e, e2]; exact hown1, (hbel.alloc (by omega) _).grown hgrow1 (by simp; omega) (own_ge hown)⟩
                case measure => simp [intOf]; omega
end Go.Proofs.YtgmjllkkgapjcaaDoor.rd
