/- The landed package frame: Wrap. -/
import Derived.Test.YtgafjbgplcjnnaaDoorEe
import Derived.Deep.RegionHeld3
namespace Go.Proofs.YtgafjbgplcjnnaaDoor.fr
open Go.RowKit

set_option maxRecDepth 100000 in
set_option maxHeartbeats 1600000 in
theorem wrap_long {a : Addr} (l : List UInt8) (v : Value) (w : World) (hs : Sent w a) (h : BS w v l) (hl : 4194304 < l.length) (hl2 : l.length ≤ 1000000000) :
    Calls Tryd.prog 11 #[v] w fun e w' => ∃ r, e = .returned (.tuple #[r, eL a]) ∧ OB w' w.heap.size r [] ∧ Below w.heap.size w w' := by
  obtain ⟨oa, c, rfl, h1, h2, h3, h4⟩ := h
  have hl' : (4194304 : Int) < (l.length : Int) := by omega
  have hN := hs.n
  have hO : Hid (∀ n, OB (w.drewN n) w.heap.size (.slice none 0 0) []) := fun n => OB.nil _ _
  clear hs h3 h4
  go_enter Tryd.func11, Tryd.ntmps11
  go_wp2
  go_quiet (fail)
  go_wp2
  refine bodyPost_ret (results_tmp2 rfl _ _ _) rfl ?_
  exact ⟨_, rfl, unhide hO nq, below_drewN _ _ _⟩

/-- What stands in memory while a frame is made: its bytes so far, in block g, the last one. -/
structure PS (w2 : World) (L : List UInt8) (u : World) : Prop where
  p : PB u w2.heap.size L
  b : Below w2.heap.size w2 u
theorem PS.drew {w2 u : World} {L : List UInt8} (h : PS w2 L u) : PS w2 L u.drew := ⟨h.p, ⟨h.b.os, h.b.tape, h.b.output, h.b.size, h.b.block⟩⟩
theorem PS.bs {w2 u : World} {L : List UInt8} (h : PS w2 L u) (o n c : Nat) (h1 : o + n ≤ L.length) (h2 : n ≤ c) (h3 : c ≤ maxLen) : BS u (.slice (some ⟨w2.heap.size, o, none⟩) n c) ((L.drop o).take n) := by
  have hl : ((L.drop o).take n).length = n := by rw [List.length_take, List.length_drop]; omega
  refine ⟨_, c, by rw [hl], by omega, h3, (fun q => by cases q), fun a ha j x hx => ?_⟩
  cases ha
  rw [addo, blk_cell h.p, List.getElem?_toArray, List.getElem?_map]
  rw [List.getElem?_take] at hx
  split at hx
  · rw [List.getElem?_drop] at hx
    rw [hx]; rfl
  · cases hx
theorem PS.put {w2 u u' : World} {L L' : List UInt8} (h : PS w2 L u) (hp : PB u' w2.heap.size L') (hu : Upd w2.heap.size u u') : PS w2 L' u' := ⟨hp, h.b.trans (hu.below (Nat.le_refl _))⟩
def zs (n : Nat) : List UInt8 := List.replicate n 0
theorem zs_length (n : Nat) : (zs n).length = n := by simp [zs]
theorem zs_add (m n : Nat) : zs (m + n) = zs m ++ zs n := by unfold zs; rw [List.replicate_append_replicate]
/-- The frame's bytes, step after step. -/
def fr0 (n : Nat) : List UInt8 := zs (12 + n)
def fr1 (x : BitVec 32) (n : Nat) : List UInt8 := four x ++ (zs 4 ++ (zs n ++ zs 4))
def fr2 (x y : BitVec 32) (n : Nat) : List UInt8 := four x ++ (four y ++ (zs n ++ zs 4))
def fr3 (x y : BitVec 32) (l : List UInt8) : List UInt8 := four x ++ (four y ++ (l ++ zs 4))
theorem fr0_eq (n : Nat) : fr0 n = [] ++ (zs 4 ++ (zs 4 ++ (zs n ++ zs 4))) := by
  rw [List.nil_append, ← zs_add n 4, ← zs_add 4, ← zs_add 4]
  unfold fr0
  congr 1
  omega
theorem put0 (x : BitVec 32) (n : Nat) : pt (fr0 n) 0 x 4 = fr1 x n := by
  rw [fr0_eq]
  exact pt_four [] (zs 4) _ x rfl
theorem put4 (x y : BitVec 32) (n : Nat) : pt (fr1 x n) 4 y 4 = fr2 x y n := pt_four (four x) (zs 4) _ y rfl
theorem copy8 (x y : BitVec 32) (l : List UInt8) : splice (fr2 x y l.length) 8 l = fr3 x y l := by
  have e : fr2 x y l.length = (four x ++ four y) ++ (zs l.length ++ zs 4) := by simp [fr2]
  have e2 : fr2 x y l.length = (four x ++ four y ++ zs l.length) ++ zs 4 := by simp [fr2]
  have h8 : (four x ++ four y).length = 8 := rfl
  have t8 : (fr2 x y l.length).take 8 = four x ++ four y := by rw [e]; exact List.take_left' h8
  have d8 : (fr2 x y l.length).drop (8 + l.length) = zs 4 := by rw [e2]; exact List.drop_left' (by rw [List.length_append, h8, zs_length])
  unfold splice
  rw [t8, d8]
  simp [fr3]
theorem put8 (x y z : BitVec 32) (l : List UInt8) : pt (fr3 x y l) (8 + l.length) z 4 = four x ++ four y ++ l ++ four z := by
  have e : fr3 x y l = (four x ++ four y ++ l) ++ (zs 4 ++ []) := by simp [fr3]
  have h8 : (four x ++ four y ++ l).length = 8 + l.length := by simp [four_length]; omega
  rw [e, ← h8, pt_four _ (zs 4) [] z rfl, List.append_nil]
theorem fr1_length (x : BitVec 32) (n : Nat) : (fr1 x n).length = 12 + n := by simp [fr1, four_length, zs_length]; omega
theorem fr2_length (x y : BitVec 32) (n : Nat) : (fr2 x y n).length = 12 + n := by simp [fr2, four_length, zs_length]; omega
theorem fr3_length (x y : BitVec 32) (l : List UInt8) : (fr3 x y l).length = 12 + l.length := by simp [fr3, four_length, zs_length]; omega
theorem cut_l (g N lo : Nat) (k : Int) (hk : k = (lo : Int)) (h : lo < N) (u : World) :
    (Instr.slice 22 (.slice (some ⟨g, 0, none⟩) N N) (some (.int .i64 k)) none none).run Tryd.prog u = .ok (.slice (some ⟨g, lo, none⟩) (N - lo) (N - lo)) u := by
  subst hk
  rw [run_slice_l (P := Tryd.prog) (ht := undU) (h0 := by omega) (h1 := by omega), size1]
  simp only [Result.andThen, sliced, Int.toNat_natCast]
  rw [if_neg (by omega), Option.map_some, addo, Nat.mul_one, Nat.zero_add]
theorem cut_h (g N hi : Nat) (k : Int) (hk : k = (hi : Int)) (h : hi ≤ N) (h0 : 0 < N) (u : World) :
    (Instr.slice 22 (.slice (some ⟨g, 0, none⟩) N N) none (some (.int .i64 k)) none).run Tryd.prog u = .ok (.slice (some ⟨g, 0, none⟩) hi N) u := by
  subst hk
  rw [run_slice_h (P := Tryd.prog) (ht := undU) (h0 := by omega) (h2 := by omega), size1]
  simp only [Result.andThen, sliced, Int.toNat_natCast]
  rw [if_neg (by omega), Option.map_some, addo, Nat.mul_one]
  simp

set_option maxRecDepth 100000 in
set_option maxHeartbeats 3200000 in
theorem wrap_any (l : List UInt8) (v : Value) (w : World) (h : BS w v l) (hl : l.length ≤ 4194304) :
    Calls Tryd.prog 11 #[v] w fun e w' => ∃ r, e = .returned (.tuple #[r, .nilIface]) ∧ OB w' w.heap.size r (frm l) ∧ Below w.heap.size w w' := by
  have HB := hide h
  obtain ⟨oa, c, rfl, h1, h2, h3, h4⟩ := h
  have hl' : decide ((4194304 : Int) < (l.length : Int)) = false := decide_eq_false (by omega)
  have HF := hide (show frm l = four (BitVec.ofNat 32 l.length) ++ four (crc (four (BitVec.ofNat 32 l.length))) ++ l ++ four (crc l) from rfl)
  generalize frm l = res at HF ⊢
  have HX := hide (ofNat_len l.length hl)
  generalize BitVec.ofNat 32 l.length = x at *
  obtain ⟨L, Z, hz, c1, mt, ms, ma, mm⟩ := made
  have C1 := hide (c1 w)
  have MT := hide mt
  have MS := hide ms
  have MA := hide ma
  have MM := hide mm
  clear c1 mt ms ma mm h3 h4
  go_enter Tryd.func11, Tryd.ntmps11
  go_wp2_with fail
  refine (unhide C1).mono ?_
  rintro e w1 ⟨rfl, b1⟩
  have B1 := hide b1
  clear b1 C1
  obtain ⟨w2, e2, t2, b2, z2⟩ := unhide MM w1
  have B2 := hide ((unhide B1).trans (b2.mono (unhide B1).size))
  have T2 := hide t2
  have Z2 := hide z2
  have HB2 := hide ((unhide HB).keep (unhide B2))
  have hmk := run_make_row' (P := Tryd.prog) 22 5 (.int .u8 0) 1 Tryd.underlying22 infoU rfl .i64 .i64 (12 + l.length) (by omega) (by omega) w2
  rw [show ((12 + l.length : Nat) : Int) = (12 : Int) + (l.length : Int) by omega] at hmk
  have P3 : Hid (PS w2 (fr0 l.length) (w2.alloc (.cells (madeCells #[Value.int .u8 0] (12 + l.length)) 5))) := ⟨pb_made w2 (12 + l.length), (Below.refl _ _).alloc (Nat.le_refl _) _⟩
  have hlu : (l.length : Int) % 4294967296 = (x.toNat : Int) := by rw [unhide HX]; omega
  have hlw : IntKind.u32.wrap (l.length : Int) = (x.toNat : Int) := by rw [unhide HX]; exact IntWalk.u32_in _ ⟨by omega, by omega⟩
  clear b2 t2 z2 HB
  go_wp2_with (refine wpList_store_mid rfl 50 _ _ rfl w1.heap.size 0 L.toArray rfl rfl (unhide MT w1) (unhide MS) (unhide MA) ?_; rw [e2])
  refine (put_any w2.heap.size 0 (12 + l.length) (12 + l.length) x (fr0 l.length) _ (unhide P3).p (by unfold fr0; rw [zs_length]; omega) (by omega)).mono ?_
  rintro e w4 ⟨rfl, p4, u4⟩
  rw [put0] at p4
  have P4 := hide ((unhide P3).put p4 u4)
  have hmx : 12 + l.length ≤ maxLen := by unfold maxLen; omega
  have r21 := cut_l w2.heap.size (12 + l.length) 4 4 rfl (by omega)
  have r23 := cut_h w2.heap.size (12 + l.length) 4 4 rfl (by omega) (by omega)
  have HSum : Hid (∀ u, PS w2 (fr1 x l.length) u → Calls Tryd.prog 26 #[.pointer (some ⟨w1.heap.size, 0, none⟩), .slice (some ⟨w2.heap.size, 0, none⟩) 4 (12 + l.length)] u fun e u' => e = .returned (.int .u32 ((crc (four x)).toNat : Int)) ∧ u' = u) := fun u hu => by
    have hb := hu.bs 0 4 (12 + l.length) (by rw [fr1_length]; omega) (by omega) hmx
    rw [List.drop_zero] at hb
    exact tsum_any w1.heap.size _ _ u ((unhide T2).keep hu.b (by rw [unhide Z2]; omega)) hb
  have HPut : Hid (∀ u, PS w2 (fr1 x l.length) u → Calls Tryd.prog 27 #[.slice (some ⟨w2.heap.size, 4, none⟩) (12 + l.length - 4) (12 + l.length - 4), .int .u32 ((crc (four x)).toNat : Int)] u fun e u' => e = .returned (.tuple #[]) ∧ PS w2 (fr2 x (crc (four x)) l.length) u') := fun u hu => by
    refine (put_any w2.heap.size 4 _ _ (crc (four x)) _ u hu.p (by rw [fr1_length]; omega) (by omega)).mono ?_
    rintro e u' ⟨rfl, p, q⟩
    rw [put4] at p
    exact ⟨rfl, hu.put p q⟩
  generalize crc (four x) = y at *
  clear MT MS MA MM hz e2 hmk P3 p4 u4 hlu hlw HX B1
  go_upto_region 6 with fail
  go_cut [] from 20 (fun wx => PS w2 (fr2 x y l.length) wx)
  case first =>
    have P4d := (unhide P4).drew
    have P4' := unhide P4
    go_region_held3 (fun _ => True) (trivial) (first
      | (go_at_call 26; refine (unhide HSum _ (by first | assumption | exact P4d)).mono ?_; rintro e u2 ⟨rfl, rfl⟩)
      | (go_at_call 27; refine (unhide HPut _ (by first | assumption | exact P4d)).mono ?_; rintro e u2 ⟨rfl, hp2⟩))
    all_goals go_wp2_with fail
    all_goals go_meet
    all_goals assumption
  case rest =>
    have PC := hide hcut
    clear hcut P4 HSum HPut r21 r23
    have r27 := cut_l w2.heap.size (12 + l.length) 8 8 rfl (by omega)
    have HB4 := hide ((unhide HB2).keep (unhide PC).b)
    have htk : Hid (l.take (12 + l.length - 8) = l) := List.take_of_length_le (by omega)
    have ha1 : Hid (8 + (l.take (12 + l.length - 8)).length ≤ (fr2 x y l.length).length) := by
      show _ ≤ _
      rw [unhide htk, fr2_length]; omega
    go_wp2_with (refine wpList_copy_bytes rfl _ _ rfl _ _ _ _ _ rfl rfl (unhide HB4) w2.heap.size 8 _ (unhide PC).p (fun _ => rfl) (unhide ha1) w2.heap.size w2 (unhide PC).b (Nat.le_refl _) ?_)
    intro w5 r5 p5 b5
    rw [unhide htk, copy8] at p5
    have P5 : Hid (PS w2 (fr3 x y l) w5) := ⟨p5, b5⟩
    have r34 := cut_l w2.heap.size (12 + l.length) (8 + l.length) ((8 : Int) + (l.length : Int)) (by omega) (by omega)
    have w8 : IntKind.i64.wrap ((8 : Int) + (l.length : Int)) = (8 : Int) + (l.length : Int) := IntWalk.i64_in _ ⟨by omega, by omega⟩
    have HSum : Hid (∀ u, PS w2 (fr3 x y l) u → Calls Tryd.prog 26 #[.pointer (some ⟨w1.heap.size, 0, none⟩), .slice oa l.length c] u fun e u' => e = .returned (.int .u32 ((crc l).toNat : Int)) ∧ u' = u) := fun u hu =>
      tsum_any w1.heap.size _ _ u ((unhide T2).keep hu.b (by rw [unhide Z2]; omega)) ((unhide HB2).keep hu.b)
    have HPut : Hid (∀ u, PS w2 (fr3 x y l) u → Calls Tryd.prog 27 #[.slice (some ⟨w2.heap.size, 8 + l.length, none⟩) (12 + l.length - (8 + l.length)) (12 + l.length - (8 + l.length)), .int .u32 ((crc l).toNat : Int)] u fun e u' => e = .returned (.tuple #[]) ∧ PS w2 res u') := fun u hu => by
      refine (put_any w2.heap.size (8 + l.length) _ _ (crc l) _ u hu.p (by rw [fr3_length]; omega) (by omega)).mono ?_
      rintro e u' ⟨rfl, p, q⟩
      rw [put8, ← unhide HF] at p
      exact ⟨rfl, hu.put p q⟩
    have HL : Hid (res.length = 12 + l.length) := by
      show _ = _
      rw [unhide HF]
      simp [four_length]; omega
    generalize crc l = z at *
    clear PC HB4 htk ha1 p5 b5 r27 HF
    go_upto_region 8 with fail
    go_cut [] from 30 (fun wx => PS w2 res wx)
    case first =>
      have P5d := (unhide P5).drew
      go_region_held3 (fun _ => True) (trivial) (first
        | (go_at_call 26; refine (unhide HSum _ (by first | assumption | exact P5d)).mono ?_; rintro e u2 ⟨rfl, rfl⟩)
        | (go_at_call 27; refine (unhide HPut _ (by first | assumption | exact P5d)).mono ?_; rintro e u2 ⟨rfl, hp2⟩))
      all_goals go_wp2_with fail
      all_goals go_meet
      all_goals assumption
    case rest =>
      have PD := hide hcut
      clear hcut P5 HSum HPut r34 w8
      go_wp2
      refine bodyPost_ret (results_tmp2 rfl _ _ _) rfl ?_
      exact ⟨_, rfl, ob_pb (unhide PD).p (unhide HL) hmx (unhide B2).size, (unhide B2).trans ((unhide PD).b.mono (unhide B2).size)⟩

end Go.Proofs.YtgafjbgplcjnnaaDoor.fr
