/- What the listed variables hold, and the package's contracts all together. -/
import Derived.Test.YthpnclhfooileaaGreatDoorHi
import Derived.Test.YthpnclhfooileaaGreatDoorHn
import Derived.Test.YthpnclhfooileaaGreatDoorHd
import Derived.Test.YthpnclhfooileaaGreatDoorJn
import Derived.Test.YthpnclhfooileaaGreatDoorJu
import Derived.Test.YthpnclhfooileaaGreatDoorJw
namespace Go.Proofs.YthpnclhfooileaaGreatDoor.ru
open Go.RowKit Go.ChangeShapes

/-- What the variables hold: ErrPath's, utf8's tables, the library's length. -/
def GR (a : Addr) (w : World) : Prop := SentP w a ∧ U8At w ∧ MaxL w
theorem GR.keep {a : Addr} (w w' : World) (h : GR a w) (hb : Below w.heap.size w w') : GR a w' := ⟨h.1.keep hb, h.2.1.keep hb, h.2.2.keep hb⟩
theorem ok_at (a : Addr) : RuleOK (GR a) where
  keep := GR.keep
  mat := fun p s w hp hs hG => match_any p s w (by omega) (by omega) hG.2.2
  awk := fun w hG => awake_any (a := a) GR.keep (fun _ h => h.1) (eval_ok GR.keep (fun _ h => h.1) (fun w h => valid_n w h.2.1) (fun w h => valid_q w h.2.1))
    (fun w hG => by
      have h := match_any ⟨#[97, 42, 98, 92, 42]⟩ ⟨#[97, 120, 120, 98, 42]⟩ w (by decide) (by decide) hG.2.2
      rw [show mch (prt (bl ⟨#[97, 42, 98, 92, 42]⟩)) (bl ⟨#[97, 120, 120, 98, 42]⟩) = true by decide] at h
      exact h) w hG
theorem maxl_of {W : World} (h : W.ShapedOpen Tryz.prog) : MaxL W := Tryz.laysM145.s1_3 W h
/-- From the listed variables: utf8's ranges first, ErrPath's second, utf8's lengths fifth. -/
theorem gr_of {W : World} {r : List (String × DataW Unit)} {e1 e2 : String × DataW Unit} (h : laidMet Tryz.prog (("unicode/utf8.acceptRanges", Rows.laid_unicode_utf8_acceptRanges) :: ("voyage/api.ErrPath", Rows.laid_voyage_api_ErrPath) :: e1 :: e2 :: ("unicode/utf8.first", Rows.laid_unicode_utf8_first) :: r) W) (hS : W.ShapedOpen Tryz.prog) : ∃ a, GR a W := by
  obtain ⟨a, hs⟩ := sentp_of h.tail
  exact ⟨a, hs, u8at_of h (by simp) (by simp), maxl_of hS⟩
end Go.Proofs.YthpnclhfooileaaGreatDoor.ru
