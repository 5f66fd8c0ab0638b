/- The reference of package stamp: Date. -/
import Derived.Test.YtemcilikchlaiabDoorKd
namespace Go.Proofs.YtemcilikchlaiabDoor.st
open Go.RowKit

theorem results_tmp4 {fn : Func} {t u v x : Tmp} (h : fn.results = #[.tmp t, .tmp u, .tmp v, .tmp x]) (tmps : Array Value) (P : Program) (w : World) :
    (results fn tmps).run P w = .ok (.tuple #[tmps.getD t undef, tmps.getD u undef, tmps.getD v undef, tmps.getD x undef]) w := by
  simp [results, h]

/-- What Date answers, if the day is y, m, d. -/
def dateV (y m d : Int) : Value := if -999999 ≤ y ∧ y ≤ 999999 then .tuple #[.int .i64 y, .int .i64 m, .int .i64 d, .int .i64 0] else .tuple #[.int .i64 0, .int .i64 0, .int .i64 0, .int .i64 13]
theorem year_eq {n y m d k : Int} (h : isDate n y m d) (h1 : dby k ≤ n) (h2 : n < dby k + yr k) : y = k := by
  have a := dn_in h.1
  rw [h.2] at a
  rw [← dby_succ] at h2
  rcases Int.lt_trichotomy y k with q | q | q
  · have := dby_mono (y + 1) k (by omega)
    omega
  · exact q
  · have := dby_mono (k + 1) y (by omega)
    omega
theorem dateV_in {y m d : Int} (h : -999999 ≤ y ∧ y ≤ 999999) : dateV y m d = .tuple #[.int .i64 y, .int .i64 m, .int .i64 d, .int .i64 0] := by unfold dateV; rw [if_pos h]
theorem dateV_out {y m d : Int} (h : ¬ (-999999 ≤ y ∧ y ≤ 999999)) : dateV y m d = .tuple #[.int .i64 0, .int .i64 0, .int .i64 0, .int .i64 13] := by unfold dateV; rw [if_neg h]
theorem dby_steep (k : Int) : dby k * 400 = 146097 * (k - 1) - 400 * 719162 + (400 * ((k - 1) / 4) - 100 * (k - 1)) - (400 * ((k - 1) / 100) - 4 * (k - 1)) + (400 * ((k - 1) / 400) - (k - 1)) := by
  unfold dby
  omega
theorem dby_near (k : Int) : 146097 * (k - 1970) - 2000 ≤ 400 * dby k ∧ 400 * dby k ≤ 146097 * (k - 1970) + 2000 := by
  have h := dby_steep k
  omega

end Go.Proofs.YtemcilikchlaiabDoor.st
