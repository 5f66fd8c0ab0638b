/- ValidString at "n" and "q", where utf8's tables hold what they are laid with. -/
import Derived.Test.YthpnclhfooileaaGreatDoorShelf
import Derived.Test.YthpnclhfooileaaGreatDoorJp
import Derived.Test.YthpnclhfooileaaGreatDoorRows
import Derived.Shelf.Unicode.ValidAny
import Derived.Lib.LaidU8T
import Derived.PinnedBridge
namespace Go.Proofs.YthpnclhfooileaaGreatDoor.ru
open Go.RowKit Go.ChangeShapes

def U8At (w : World) : Prop := Lib.Utf8Tabs 4 5 w
theorem U8At.keep {w w' : World} (h : U8At w) (hb : Below w.heap.size w w') : U8At w' :=
  ⟨fun c hc => keepC' hb (h.1 c hc), fun i hi => ⟨keepC' hb (h.2 i hi).1, keepC' hb (h.2 i hi).2⟩⟩
theorem valid_ok (nm : ByteArray) (hn : nm.size ≤ 9223372036854775807) (hv : Lib.validD nm.data.toList = true) : ValidOK nm U8At := fun w hw => by
  have h := Any.utf8_ValidString Tryz.lays196 nm w hn hw
  rw [hv] at h
  exact h
theorem valid_n : ValidOK ⟨#[110]⟩ U8At := valid_ok _ (by decide) (by decide)
theorem valid_q : ValidOK ⟨#[113]⟩ U8At := valid_ok _ (by decide) (by decide)
theorem acc_eq : (Rows.laid_unicode_utf8_acceptRanges : DataW Unit) = Lib.acceptData := by kernel_rfl
theorem first_eq : Rows.laid_unicode_utf8_first = Lib.firstData := Pinned.utf8First_eq
theorem u8at_of {W : World} {l : List (String × DataW Unit)} (h : laidMet Tryz.prog l W) (h3 : ("unicode/utf8.first", Rows.laid_unicode_utf8_first) ∈ l) (h4 : ("unicode/utf8.acceptRanges", Rows.laid_unicode_utf8_acceptRanges) ∈ l) : U8At W :=
  utf8Tabs_of_readsT (U8Types.of196 Tryz.lays196) ⟨by kernel_rfl, by kernel_rfl, by kernel_rfl, by kernel_rfl, by kernel_rfl, by kernel_rfl, by kernel_rfl⟩ (first_eq ▸ Lib.laidMet.reads h h3) (acc_eq ▸ Lib.laidMet.reads h h4)
end Go.Proofs.YthpnclhfooileaaGreatDoor.ru
