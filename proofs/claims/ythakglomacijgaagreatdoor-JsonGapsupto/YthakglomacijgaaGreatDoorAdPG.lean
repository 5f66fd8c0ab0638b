/- Texts in one: Ad Aw Cu Di -/
import Derived.Test.YthakglomacijgaaGreatDoorPaPG
import Derived.Deep.CutRange
import Derived.Deep.DeepCutAuto
namespace Go.Proofs.YthakglomacijgaaGreatDoor.rd
open Go.RowKit
structure AddW (w wc:World) (p q:Dn) (eX:Value):Prop where
 a:DLies wc w.heap.size p
 b:DLies wc (w.heap.size+1) q
 r:DLies wc (w.heap.size+2) zed
 below:Below w.heap.size w wc
 g:wc.cell? ⟨10,0,none⟩=some eX
 lt:10 < w.heap.size
def behindOf (p q:Dn):Nat:=(p.ex - min p.ex q.ex).toNat
def aheadOf (p q:Dn):Nat:=(max (p.dg.size+p.ex) (q.dg.size+q.ex) - min p.ex q.ex - behindOf p q - p.dg.size).toNat
def addSame (p q:Dn) (eX:Value):Value × Value :=
 bounded p.neg (sumD (spreadB p.dg (aheadOf p q) (behindOf p q)) (spreadB q.dg (aheadOf q p) (behindOf q p))) (min p.ex q.ex) eX
theorem dig_filter (l:List UInt8):∀ c∈l.filter nu.dig,nu.dig c=true:=fun _ h=>(List.mem_filter.1 h).2
theorem mem_dropWhile {l:List UInt8}{f:UInt8→Bool}{c:UInt8} (h:c∈l.dropWhile f):c∈l:=(List.dropWhile_suffix f).subset h
theorem oneForm_good (neg:Bool) (s:ByteArray) (ex:Int) (hd:AllDig s):(oneForm neg s ex).1.dg.size≤s.size∧-9999≤(oneForm neg s ex).1.ex∧(oneForm neg s ex).1.ex≤9999∧AllDig (oneForm neg s ex).1.dg:=by
 have l1:=trimL_le s
 have l2:=trimR_le (trimL s)
 have hz:AllDig (zed).dg:=fun c hc=>by simp [zed] at hc
 have ht:AllDig (trimR (trimL s)):=by
  intro c hc
  have h1:c∈Lib.trimRightB (trimL s).data.toList 48:=by simpa [trimR] using hc
  unfold Lib.trimRightB at h1
  have h2:=mem_dropWhile (List.mem_reverse.1 h1)
  have h3:c∈Lib.trimLeftB s.data.toList 48:=by simpa [trimL] using (List.mem_reverse.1 h2)
  exact hd c (mem_dropWhile h3)
 unfold oneForm
 split
 · exact ⟨by simp [zed],by simp [zed],by simp [zed],hz⟩
 · split
   · exact ⟨by simp [zed],by simp [zed],by simp [zed],hz⟩
   · split
     · exact ⟨by simp [zed],by simp [zed],by simp [zed],hz⟩
     · refine ⟨?_,?_,?_,ht⟩
       · show (trimR (trimL s)).size≤s.size;omega
       · simp only;omega
       · simp only;omega
theorem digs_dig (s:ByteArray):AllDig (digs s):=by
 intro c hc
 have:c∈s.data.toList.filter nu.dig:=by simpa [digs] using hc
 exact dig_filter _ c this
theorem norm_good (d:Dn):(norm d).dg.size≤d.dg.size∧-9999≤(norm d).ex∧(norm d).ex≤9999∧AllDig (norm d).dg:=by
 have h:=oneForm_good d.neg (digs d.dg) d.ex (digs_dig d.dg)
 have:=digs_le d.dg
 exact ⟨by have:=h.1;unfold norm;omega,h.2.1,h.2.2.1,h.2.2.2⟩
def cutN (l:List Int):List Int:=(l.reverse.dropWhile (· == 0)).reverse
def Ints (w:World) (v:Value) (zs:List Int):Prop :=
 (v=.slice none 0 0∧zs=[])∨∃ g cap,v=.slice (some ⟨g,0,none⟩) zs.length cap∧zs.length≤cap∧cap≤9223372036854775807∧∀ j,j < zs.length→w.cell? ⟨g,j,none⟩=some (.int .i64 (zs.getD j 0))
def iv (z:Int):Value:=.int .i64 z
def dl (s:ByteArray) (k:Nat):List Int:=((s.data.toList.drop k).filter nu.dig).reverse.map (fun c:UInt8=>(c.toNat:Int) - 48)
end Go.Proofs.YthakglomacijgaaGreatDoor.rd
