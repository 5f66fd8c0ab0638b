/- Texts in one: Rd -/
import Derived.Test.YthnhobplgmojeaaGreatDoorShelfP
import Derived.Test.YthnhobplgmojeaaGreatDoorChecked
import Derived.WalkKit
import Derived.Deep.QuietTactic
import Derived.BigQuiet
import Derived.Outline
import Derived.WalkLawsBesides
import Derived.Lib.SmallJoins
namespace Go.Proofs.YthnhobplgmojeaaGreatDoor.rd
open Go.RowKit
theorem bcell {W w1:World} (hb:Below W.heap.size W w1):(∀ b o,b < W.heap.size→w1.cell? ⟨b,o,none⟩=W.cell? ⟨b,o,none⟩)∧(∀ b o,b < W.heap.size→w1.frozen? ⟨b,o,none⟩=W.frozen? ⟨b,o,none⟩) :=
 ⟨fun b o h=>hb.cell (p:=⟨b,o,none⟩) h,fun b o h=>hb.frozen (p:=⟨b,o,none⟩) h⟩
theorem ended_any (s:ByteArray) (b k:Nat) (w:World) (h0:w.cell? ⟨b,0,none⟩=some (.string s)) (h1:w.cell? ⟨b,1,none⟩=some (.int .i64 k)) :
 Calls Tryz.prog 202 #[.pointer (some ⟨b,0,none⟩)] w fun e w'=>e=.returned (.bool ((k:Int) == (s.size:Int)))∧∃ n,w'=w.drewN n:=by
 go_enter Tryz.func202,Tryz.ntmps202
 go_wp2
 go_quiet (fail)
 go_wp2;go_ret;exact ⟨rfl,_,rfl⟩
theorem ended_yes (s:ByteArray) (b k:Nat) (w:World) (h0:w.cell? ⟨b,0,none⟩=some (.string s)) (h1:w.cell? ⟨b,1,none⟩=some (.int .i64 k)) (hk:k=s.size) :
 Calls Tryz.prog 202 #[.pointer (some ⟨b,0,none⟩)] w fun e w'=>e=.returned (.bool true)∧∃ n,w'=w.drewN n :=
 (ended_any s b k w h0 h1).mono fun _ _ ⟨he,hn⟩=>⟨by rw [he,hk];simp,hn⟩
theorem ended_no (s:ByteArray) (b k:Nat) (w:World) (h0:w.cell? ⟨b,0,none⟩=some (.string s)) (h1:w.cell? ⟨b,1,none⟩=some (.int .i64 k)) (hk:k < s.size) :
 Calls Tryz.prog 202 #[.pointer (some ⟨b,0,none⟩)] w fun e w'=>e=.returned (.bool false)∧∃ n,w'=w.drewN n:=by
 have hf:((k:Int) == (s.size:Int))=false:=by simp;omega
 refine (ended_any s b k w h0 h1).mono fun e w' ⟨he,hn⟩=>⟨?_,hn⟩
 rw [he,hf]
theorem takes_end (s set:ByteArray) (b k:Nat) (w:World) (h0:w.cell? ⟨b,0,none⟩=some (.string s)) (h1:w.cell? ⟨b,1,none⟩=some (.int .i64 k)) (hk:k=s.size) :
 Calls Tryz.prog 200 #[.pointer (some ⟨b,0,none⟩),.string set] w fun e w'=>e=.returned (.bool false)∧∃ n,w'=w.drewN n:=by
 go_enter Tryz.func200,Tryz.ntmps200
 go_wp2
 go_quiet ((go_at_call 202;exact Calls.quiet_of (ended_yes s b k _ (by exact h0) (by exact h1) hk)))
 go_wp2;go_ret;exact ⟨rfl,_,rfl⟩
theorem takes_no (s set:ByteArray) (b k:Nat) (w:World) (h0:w.cell? ⟨b,0,none⟩=some (.string s)) (h1:w.cell? ⟨b,1,none⟩=some (.int .i64 k)) (hk:k < s.size)
 (hi:Lib.indexByte set.data.toList s[k] < 0) :
 Calls Tryz.prog 200 #[.pointer (some ⟨b,0,none⟩),.string set] w fun e w'=>e=.returned (.bool false)∧∃ n,w'=w.drewN n:=by
 go_enter Tryz.func200,Tryz.ntmps200
 go_wp2
 go_quiet ((first
  | (go_at_call 202;exact Calls.quiet_of (ended_no s b k _ (by exact h0) (by exact h1) hk))
  | (go_at_call 145;exact Calls.quiet_of_same (Tryz.strings_IndexByte _ _ _))))
 go_wp2;go_ret;exact ⟨rfl,_,rfl⟩
theorem takes_yes (s set:ByteArray) (b k:Nat) (w:World) (h0:w.cell? ⟨b,0,none⟩=some (.string s)) (h1:w.cell? ⟨b,1,none⟩=some (.int .i64 k)) (hk:k < s.size)
 (hs:s.size≤4611686018427387904) (hf:w.frozen? ⟨b,1,none⟩=false) (hi:0≤Lib.indexByte set.data.toList s[k]) :
 Calls Tryz.prog 200 #[.pointer (some ⟨b,0,none⟩),.string set] w fun e w'=>e=.returned (.bool true)∧∃ n,w'=(w.setCell ⟨b,1,none⟩ (.int .i64 ((k+1:Nat):Int))).drewN n:=by
 go_enter Tryz.func200,Tryz.ntmps200
 go_wp2
 go_quiet ((first
  | (go_at_call 202;exact Calls.quiet_of (ended_no s b k _ (by exact h0) (by exact h1) hk))
  | (go_at_call 145;exact Calls.quiet_of_same (Tryz.strings_IndexByte _ _ _))))
 go_wp2;go_ret;refine ⟨rfl,nq,?_⟩;rw [show ((k+1:Nat):Int)=(k:Int)+1 from by omega];rfl
end Go.Proofs.YthnhobplgmojeaaGreatDoor.rd
