/- Texts in one: Pw -/
import Derived.Test.YthakglomacijgaaGreatDoorScPG
import Derived.Test.YthakglomacijgaaGreatDoorIePG
import Derived.LaidEql
import Derived.Test.YthakglomacijgaaGreatDoorAsPG
namespace Go.Proofs.YthakglomacijgaaGreatDoor.rd.lw
open Go.RowKit
theorem infoP:(Tryz.prog.info? 231).map (fun i=>i.comparable)=some true:=by kernel_rfl
theorem infoE:(Tryz.prog.info? 233).map (fun i=>i.size)=some 1:=by kernel_rfl
theorem eql_same (w:World) (a:Addr):(binOp .eql 46 (.iface 231 (.pointer (some a))) (.iface 231 (.pointer (some a)))).run Tryz.prog w=.ok (.bool true) w:=by
 have hi:=infoP
 have hj:=infoE
 cases h1:Tryz.prog.info? 231 with
 | none=>rw [h1] at hi;cases hi
 | some i =>
   cases h2:Tryz.prog.info? 233 with
   | none=>rw [h2] at hj;cases hj
   | some j =>
     rw [h1] at hi
     exact run_eql_iface_ptr_same w a Tryz.underlying46 Tryz.underlying231 h1 (by simpa using hi) h2
def isE (g:Nat):Prop:=g=1∨g=3∨g=10∨g=4∨g=0∨g=5∨g=6
structure ES (A:Nat→Addr) (w:World):Prop where
 cell:∀ g,isE g→w.cell? ⟨g,0,none⟩=some (.iface 231 (.pointer (some (A g))))
 ne:∀ g h,isE g→isE h→g≠h→A g≠A h
 lies:∀ g,isE g→∃ c t,w.heap[(A g).block]?=some (.cells c t (0,0))
theorem ES.keep {A:Nat→Addr}{w w':World} (h:ES A w) (hb:Below w.heap.size w w'):ES A w' :=
 ⟨fun g hg=>kc hb (h.cell g hg),h.ne,fun g hg=>by
  obtain ⟨c,t,e⟩:=h.lies g hg
  exact ⟨c,t,(hb.block _ (blk_lt e)).trans e⟩⟩
set_option maxRecDepth 100000 in
set_option maxHeartbeats 1600000 in
theorem place_fault (fb:Nat) (k:Int) (et:TypeId) (ev:Value) (w:World) (hF:FL w fb k et ev) (hg:w.cell? ⟨2,0,none⟩=some (.iface 144 (.agg #[.pointer (some ⟨16,46,none⟩)]))) :
 Calls Tryz.prog 32 #[.iface 92 (.pointer (some ⟨fb,0,none⟩))] w fun e w'=>e=.returned (.tuple #[.int .i64 k,.iface et ev])∧Below w.heap.size w w':=by
 have hfl:=blk_lt hF
 have hb:Below w.heap.size w (w.alloc (.cells #[.pointer none] 92)):=(Below.refl _ _).alloc (Nat.le_refl _) _
 have hn:=heap_alloc_new w (.cells #[.pointer none] 92)
 have C:=hide (as_hit ⟨fb,0,none⟩ w.heap.size (.pointer none) (w.alloc (.cells #[.pointer none] 92)) (keepC hb hg) (blk_cell hn 0) (blk_free hn 0))
 have HF:=hide hF
 have HB:=hide hb
 clear hF hb hn hg
 go_enter Tryz.func32,Tryz.ntmps32
 go_wp2_with fail
 refine (uh C).mono ?_
 rintro e u ⟨rfl,X,hX,hu⟩
 have hxs:w.heap.size < X.heap.size:=by
  have h1:=hX.size
  rw [World.size_alloc] at h1
  omega
 have hXb:Below w.heap.size w X:=(uh HB).trans (hX.mono (by rw [World.size_alloc];omega))
 have hp:X.heap[w.heap.size]?=some (.cells #[.pointer none] 92 (0,0)):=(hX.block _ (by rw [World.size_alloc];omega)).trans (heap_alloc_new w _)
 have hU:Upd w.heap.size X u:=by rw [hu];exact Upd.setCell w.heap.size 0 X _
 have hp2:u.heap[w.heap.size]?=some (.cells #[.pointer (some ⟨fb,0,none⟩)] 92 (0,0)):=by rw [hu];exact blk_set hp 0 _
 have hF2:FL u fb k et ev:=(hU.block fb (by omega)).trans ((hXb.block fb hfl).trans (uh HF))
 have HBu:=hide (hXb.trans (hU.below (Nat.le_refl _)))
 have z0:u.cell? ⟨w.heap.size,0,none⟩=some (.pointer (some ⟨fb,0,none⟩)):=blk_cell hp2 0
 have y0:u.cell? ⟨fb,0,none⟩=some (.int .i64 k):=blk_cell hF2 0
 have y1:u.cell? ⟨fb,1,none⟩=some (.string ⟨#[]⟩):=blk_cell hF2 1
 have y2:u.cell? ⟨fb,2,none⟩=some (.iface et ev):=blk_cell hF2 2
 clear hX hu hxs hXb hp hU hp2 hF2 C HF HB
 go_wp2
 go_quiet (fail)
 go_wp2
 go_ret2
 exact ⟨rfl,below_drewN (uh HBu) _⟩
end Go.Proofs.YthakglomacijgaaGreatDoor.rd.lw
