/- 'DiskSafe' answers true for every row of calls, of bulk at most 1048576, at any world that a call may begin in. -/
import Derived.Test.YtbcclolhfogpnaaDoorYi
import Derived.Test.YtbcclolhfogpnaaDoorYd
import Derived.Test.YtbcclolhfogpnaaDoorDk8
namespace Go.Proofs.YtbcclolhfogpnaaDoor
theorem diskSafe_upto : Rows.DiskSafeUptoCardSaid := frDiskSafe.card (fun v l W hL _ h hb => by
  have h0 : laidMet Tryd.prog Rows.diskSafeUptoRow.laid W := hL
  obtain ⟨a, b, hs⟩ := dk.sents_of h0 h0.tail
  exact dk.safe_law (dk.ok_all a b) l v W hs h (by omega) (fun o ho => (hb.2.1 o ho).mono (by omega)))
end Go.Proofs.YtbcclolhfogpnaaDoor
