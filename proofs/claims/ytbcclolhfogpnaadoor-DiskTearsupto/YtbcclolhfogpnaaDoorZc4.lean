/- 'DiskTears' answers true for all bytes, numbers and bits to be turned, of bulk at most 1048576 together, at any world that a call may begin in. -/
import Derived.Test.YtbcclolhfogpnaaDoorYk
import Derived.Test.YtbcclolhfogpnaaDoorYh
import Derived.Test.YtbcclolhfogpnaaDoorDk8
namespace Go.Proofs.YtbcclolhfogpnaaDoor
theorem diskTears_upto : Rows.DiskTearsUptoCardSaid := frDiskTears.card (fun vx x vy y k t u W hL _ hx lx hy ly hk ht hu => by
  have h0 : laidMet Tryd.prog Rows.diskTearsUptoRow.laid W := hL
  obtain ⟨a, b, hs⟩ := dk.sents_of h0 h0.tail
  obtain ⟨n, rfl⟩ : ∃ n : Nat, u = (n : Int) := ⟨u.toNat, by omega⟩
  exact dk.tears_law (dk.ok_all a b) x y vx vy k t n W hs hx hy (by omega) (by omega) hk.1 hk.2 ht.1 ht.2 (by omega))
end Go.Proofs.YtbcclolhfogpnaaDoor
