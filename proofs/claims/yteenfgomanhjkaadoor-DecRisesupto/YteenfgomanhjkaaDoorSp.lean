/- top's and spread's contracts. -/
import Derived.Test.YteenfgomanhjkaaDoorSu
import Derived.Lib.Repeat
namespace Go.Proofs.YteenfgomanhjkaaDoor.rd
open Go.RowKit

theorem top_any (d : Dn) (w : World) (hs : d.dg.size ≤ 4611686018427387904) (h0 : -1000000 ≤ d.ex) (h1 : d.ex ≤ 1000000) :
    Calls Tryd.prog 20 #[dv d] w fun e w' => e = .returned (.int .i64 (d.dg.size + d.ex)) ∧ Below w.heap.size w w' := by
  obtain ⟨n, g, x⟩ := d
  simp only [dv] at hs h0 h1 ⊢
  go_enter Tryd.func20, Tryd.ntmps20
  go_wp2
  go_ret
  exact ⟨rfl, (Below.refl _ _).alloc (Nat.le_refl _) _⟩

/-- So many noughts. -/
def zeros (c : Nat) : ByteArray := ⟨(Lib.repeatL (⟨#[48]⟩ : ByteArray).data.toList c).toArray⟩
theorem repeat_any (c : Nat) (w : World) (hc : c ≤ 140737488355328) : Calls Tryd.prog 35 #[.string ⟨#[48]⟩, .int .i64 c] w fun e w' => e = .returned (.string (zeros c)) ∧ Below w.heap.size w w' :=
  Tryd.strings_Repeat ⟨#[48]⟩ c w (by omega) (by simp [ByteArray.size]; omega)

def spreadB (g : ByteArray) (ahead behind : Nat) : ByteArray := zeros ahead ++ g ++ zeros behind
theorem zeros_size (c : Nat) : (zeros c).size = c := by
  have e : (zeros c).size = (Lib.repeatL (⟨#[48]⟩ : ByteArray).data.toList c).length := by unfold zeros; exact List.size_toArray
  rw [e, Lib.repeatL_length]
  simp

theorem keepSp {b0 : Nat} {v0 : Value} {W w1 : World} (hb : Below W.heap.size W w1)
    (h : W.cell? ⟨b0, 1, none⟩ = some v0 ∧ b0 < W.heap.size) :
    w1.cell? ⟨b0, 1, none⟩ = some v0 ∧ b0 < w1.heap.size := by
  obtain ⟨c0, z0⟩ := h
  exact ⟨keepC hb c0, Nat.lt_of_lt_of_le z0 hb.size⟩

set_option maxRecDepth 100000 in
set_option maxHeartbeats 1600000 in
theorem spread_any (d : Dn) (ahead behind : Nat) (ex wd : Int) (w : World) (hs : d.dg.size ≤ 1099511627776) (hx0 : -1000000 ≤ d.ex) (hx1 : d.ex ≤ 1000000) (he : d.ex - ex = behind) (hb : behind ≤ 1000000)
    (hw : wd - behind - d.dg.size = ahead) (ha : ahead ≤ 4398046511104) :
    Calls Tryd.prog 21 #[dv d, .int .i64 ex, .int .i64 wd] w fun e w' => e = .returned (.string (spreadB d.dg ahead behind)) ∧ Below w.heap.size w w' := by
  obtain ⟨n, g, x⟩ := d
  simp only [dv] at hs hx0 hx1 he hw ⊢
  have z1 := zeros_size ahead
  have z2 := zeros_size behind
  obtain rfl : ex = x - behind := by omega
  obtain rfl : wd = ahead + behind + g.size := by omega
  have HB : Hid (spreadB g ahead behind = zeros ahead ++ g ++ zeros behind) := rfl
  generalize spreadB g ahead behind = res at HB ⊢
  have r1 := fun w => repeat_any ahead w (by omega)
  have r2 := fun w => repeat_any behind w (by omega)
  generalize zeros ahead = za at *
  generalize zeros behind = zb at *
  have hs1 : za.size + g.size ≤ 9223372036854775807 := by omega
  have hs2 : (za ++ g).size + zb.size ≤ 9223372036854775807 := by simp; omega
  have hcat1 : ∀ u : World, (Op.stringOp .add za g).run Tryd.prog u = .ok (.string (za ++ g)) u := fun u => run_string_add_sum u za g hs1
  have hcat2 : ∀ u : World, (Op.stringOp .add (za ++ g) zb).run Tryd.prog u = .ok (.string (za ++ g ++ zb)) u := fun u => run_string_add_sum u _ _ hs2
  have R1 := hide r1
  have R2 := hide r2
  clear r1 r2 z1 z2 hs1 hs2 he hw
  have e1 : x - (x - (behind : Int)) = behind := by omega
  have e2 : (ahead : Int) + behind + g.size - behind - g.size = ahead := by omega
  go_enter Tryd.func21, Tryd.ntmps21
  go_wp2_with fail
  go_region_held3 (fun w' => w'.cell? ⟨w.heap.size, 1, none⟩ = some (.string g) ∧ w.heap.size < w'.heap.size) (((try dsimp only); (repeat' apply And.intro); all_goals first | (go_keep; done) | (simp; omega))) (first
    | (go_at_call_of 35 (Value.int .i64 (ahead : Int)); refine (unhide R1 _).mono ?_; rintro e w2 ⟨rfl, hb2⟩; obtain ⟨k0, k1⟩ := keepSp (b0 := w.heap.size) (v0 := .string g) hb2 (by first | assumption | go_keep); have HB2 : Hid (Below w.heap.size w w2) := (by refine Below.trans ?_ (hb2.mono (by first | (simp; omega) | simp | omega)); repeat (first | exact Below.refl _ _ | apply Below.drew | refine Below.alloc ?_ (by first | (simp; omega) | simp | omega) _)); clear hb2)
    | (go_at_call_of 35 (Value.int .i64 (behind : Int)); refine (unhide R2 _).mono ?_; rintro e w3 ⟨rfl, hb3⟩; obtain ⟨m0, m1⟩ := keepSp (b0 := w.heap.size) (v0 := .string g) hb3 (by first | assumption | go_keep); have HB3 : Hid (Below w.heap.size w w3) := (by refine Below.trans ?_ (hb3.mono (by first | (simp; omega) | simp | omega)); repeat (first | exact HB2.out | apply Below.drew)); clear hb3))
  all_goals go_wp2
  all_goals go_ret
  all_goals refine ⟨?_, HB3.out⟩
  all_goals rw [HB.out]
  all_goals rfl
end Go.Proofs.YteenfgomanhjkaaDoor.rd
